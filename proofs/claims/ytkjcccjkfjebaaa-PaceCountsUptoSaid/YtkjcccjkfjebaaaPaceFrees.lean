/- The machine that frees. -/
import Derived.Test.YtkjcccjkfjebaaaPaceReads2
set_option linter.unusedVariables false
set_option linter.unusedSimpArgs false
namespace Go.Proofs.Ytkjcccjkfjebaaa
namespace Pac
open Go.RowKit Go.Maps Arn

/-- Words in a slice that may be cut. -/
def HsAt (w : World) (v : Value) (l : List Int) : Prop :=
  (v = .slice none 0 0 ∧ l = []) ∨ ∃ g o c, v = .slice (some ⟨g, o, none⟩) l.length c ∧ l.length ≤ c ∧ c ≤ maxLen ∧ ∀ j u, (u64s l)[j]? = some u → w.cell? ⟨g, o + j, none⟩ = some u
theorem HsAt.turn {w w' : World} {v : Value} {l : List Int} {F : List Nat} (h : HsAt w v l) (ht : Frm.Turn F w w') (hn : ∀ k, v.ownBlock = some k → k ∉ F) : HsAt w' v l := by
  rcases h with ⟨h1, h2⟩ | ⟨g, o, c, rfl, hc, hm, h1⟩
  · exact .inl ⟨h1, h2⟩
  · exact .inr ⟨g, o, c, rfl, hc, hm, fun j u hu => ht.cell (h1 j u hu) (hn g rfl)⟩
theorem HsAt.words {w : World} {v : Value} {l : List Int} (h : HsAt w v l) : WordsAt w v l := by
  rcases h with ⟨h1, h2⟩ | ⟨g, o, c, rfl, hc, hm, h1⟩
  · exact .inl ⟨h1, h2⟩
  · exact .inr ⟨_, c, rfl, fun j u hu => by rw [add_at]; exact h1 j u hu⟩
theorem hs_of_row {w : World} {v : Value} {l : List Int} (h : w.ownsRow 0 29 1 v l.length (u64s l)) : HsAt w v l := by
  rcases h.2 with ⟨rfl, e⟩ | ⟨g, c, cur, rfl, _, _, q1, q2, _⟩
  · exact .inl ⟨rfl, List.length_eq_zero_iff.1 e⟩
  · refine .inr ⟨g, 0, c, rfl, q1, q2, fun j u hu => ?_⟩
    have := World.ownsRow.cells h rfl j u hu
    rwa [add_at] at this
def HCloneOf (w : World) (l : List Int) (e : Ending) (w' : World) : Prop :=
  ∃ ao c, e = .returned (.slice ao l.length c) ∧ HsAt w' (.slice ao l.length c) l ∧ (∀ k, (Value.slice ao l.length c).ownBlock = some k → w.heap.size ≤ k ∧ k < w'.heap.size) ∧ Frm.Turn [] w w'
theorem hclone_any (v : Value) (l : List Int) (w : World) (h : WordsAt w v l) (hn : l.length ≤ 65536) : Calls Try.prog 60 #[v] w (HCloneOf w l) := by
  rcases h with ⟨rfl, rfl⟩ | ⟨a, c, rfl, h⟩
  · refine (uclone_nil w).mono ?_
    rintro e w' ⟨rfl, rfl⟩
    exact ⟨none, 0, rfl, .inl ⟨rfl, rfl⟩, fun k hk => by simp [Value.ownBlock] at hk, Frm.Turn.refl [] _⟩
  · refine (uclone_some a c l w h hn).mono ?_
    rintro e w' ⟨g', c', rfl, h1, h2, h3⟩
    refine ⟨some ⟨g', 0, none⟩, c', rfl, hs_of_row h1, fun k hk => ?_, h3⟩
    cases hk
    exact ⟨h2, (h1.lt g' rfl).2⟩
def FrBody (w : World) (r b : Nat) (x lv : Value) : Prop := w.heap[r]? = some (.cells #[x, .pointer (some ⟨b, 0, none⟩), lv] 159 (0, 0))
theorem FrBody.cells {w : World} {r b : Nat} {x lv : Value} (h : FrBody w r b x lv) : w.cell? ⟨r, 0, none⟩ = some x ∧ w.cell? ⟨r, 1, none⟩ = some (.pointer (some ⟨b, 0, none⟩)) ∧ w.cell? ⟨r, 2, none⟩ = some lv := by
  unfold FrBody at h
  refine ⟨?_, ?_, ?_⟩ <;> simp [World.cell?, h]
theorem FrBody.thaw {w : World} {r b : Nat} {x lv : Value} (h : FrBody w r b x lv) (i : Nat) : w.frozen? ⟨r, i, none⟩ = false := Frm.frozen_row w r i _ _ h
theorem FrBody.turn {w w' : World} {r b : Nat} {x lv : Value} {F : List Nat} (h : FrBody w r b x lv) (ht : Frm.Turn F w w') (hn : r ∉ F) : FrBody w' r b x lv := ht.keep h hn
theorem FrBody.set {w : World} {r b : Nat} {x lv : Value} (h : FrBody w r b x lv) : (∀ y, FrBody (w.setCell ⟨r, 0, none⟩ y) r b y lv) ∧ (∀ y, FrBody (w.setCell ⟨r, 2, none⟩ y) r b x y) := by
  unfold FrBody at h ⊢
  refine ⟨fun y => ?_, fun y => ?_⟩ <;> rw [Frm.heap_set _ _ _ _ _ _ _ h] <;> simp
def frNext (r : Nat) : Value := .func (.func 101) #[.pointer (some ⟨r, 0, none⟩)] #[]
theorem frNext_fn (r : Nat) : IsFn (frNext r) := isFn_func _ _ _
def frFoot (r : Nat) (lv : Value) : List Nat := r :: lv.ownBlock.toList
theorem mem_ffoot {r k : Nat} {lv : Value} : k ∈ frFoot r lv ↔ k = r ∨ lv.ownBlock = some k := by simp [frFoot]
structure FrAt (w : World) (r b : Nat) (L : List Int) (lv : Value) : Prop where
  body : FrBody w r b (nextOf L.length (frNext r)) lv
  left : HsAt w lv L
  ll : lv.ownBlock ≠ some r
theorem FrAt.turn {w w' : World} {r b : Nat} {L : List Int} {lv : Value} {F : List Nat} (h : FrAt w r b L lv) (ht : Frm.Turn F w w') (hn : ∀ k, k ∈ frFoot r lv → k ∉ F) : FrAt w' r b L lv :=
  ⟨h.body.turn ht (hn r (mem_ffoot.2 (.inl rfl))), h.left.turn ht (fun k hk => hn k (mem_ffoot.2 (.inr hk))), h.ll⟩
def FrAfter (w : World) (r b : Nat) (M : Mem) (lv : Value) (A' : Ar) (n : Nat) (L : List Int) (wc w' : World) : Prop :=
  ∃ M' lv', Sin w b M' A' n w' ∧ FrAt w' r b L lv' ∧ (∀ k, k ∈ frFoot r lv' → k ∉ M'.foot b ∧ w.heap.size ≤ k) ∧ Frm.Turn (M.foot b ++ frFoot r lv) wc w' ∧
    (∀ k, k ∈ M'.foot b → k ∈ M.foot b ∨ wc.heap.size ≤ k) ∧ (∀ k, k ∈ frFoot r lv' → k ∈ frFoot r lv)
theorem run_tail_u (g o n c : Nat) (hc : n + 1 ≤ c) (hn : n ≤ 70000) (w : World) : (Instr.slice 42 (.slice (some ⟨g, o, none⟩) (n + 1) c) (some (.int .i64 1)) none none).run Try.prog w = .ok (.slice (some ⟨g, if c = 1 then o else o + 1, none⟩) n (c - 1)) w := by
  have hu := run_underlying under_u64s w
  have hs := size_u64
  have h1 : (1 : Int) ≤ ((n : Int) + 1) := by omega
  by_cases h : c = 1
  · simp [Instr.slice, Instr.sliceBounds, Instr.sliceBound, go_sem, hu, hs, h1, h, asIntOf]
  · simp [Instr.slice, Instr.sliceBounds, Instr.sliceBound, go_sem, hu, hs, h1, h, asIntOf, add_at]
theorem fr_done {w wd wc : World} {r b n g o c q : Nat} {M M' : Mem} {A A' : Ar} {h0 : Int} {L : List Int} (hq : q = L.length) (hlc : q + 1 ≤ c) (hcm : c ≤ maxLen)
    (h : Sin w b M A n wd) (hs : Sin w b M' A' (n + 1) wc) (hT : Frm.Turn (M.foot b) wd wc) (hf : ∀ k, k ∈ M'.foot b → k ∈ M.foot b ∨ wd.heap.size ≤ k)
    (hr0 : FrAt wd r b (h0 :: L) (.slice (some ⟨g, o, none⟩) (q + 1) c)) (hd : ∀ k, k ∈ frFoot r (.slice (some ⟨g, o, none⟩) (q + 1) c) → k ∉ M.foot b ∧ w.heap.size ≤ k) :
    FrAfter w r b M (.slice (some ⟨g, o, none⟩) (q + 1) c) A' (n + 1) L wd (((wc.setCell ⟨r, 2, none⟩ (.slice (some ⟨g, if c = 1 then o else o + 1, none⟩) q (c - 1))).setCell ⟨r, 0, none⟩ (nextOf q (frNext r))).drew) := by
  have hr := hr0.turn hT (fun k hk => (hd k hk).1)
  have hcell : ∀ j u, (u64s (h0 :: L))[j]? = some u → wc.cell? ⟨g, o + j, none⟩ = some u := by
    rcases hr.left with ⟨h1, _⟩ | ⟨g', o', c', h1, h2, h3, h4⟩
    · cases h1
    · simp only [Value.slice.injEq, Option.some.injEq, Addr.mk.injEq] at h1
      obtain ⟨⟨rfl, rfl, _⟩, _, rfl⟩ := h1
      exact h4
  have hgl0 : g < wd.heap.size := by
    rcases hr0.left with ⟨h1, _⟩ | ⟨g', o', c', h1, h2, h3, h4⟩
    · cases h1
    · simp only [Value.slice.injEq, Option.some.injEq, Addr.mk.injEq] at h1
      obtain ⟨⟨rfl, rfl, _⟩, _, rfl⟩ := h1
      exact World.block_lt_of_cell? wd ⟨g, o + 0, none⟩ (h4 0 _ rfl)
  have hrl0 : r < wd.heap.size := (Array.getElem?_eq_some_iff.1 hr0.body).1
  have hlt0 : ∀ k, k ∈ frFoot r (.slice (some ⟨g, o, none⟩) (q + 1) c) → k < wd.heap.size := fun k hk => by
    rcases mem_ffoot.1 hk with rfl | hk
    · exact hrl0
    · cases hk; exact hgl0
  have hno : ∀ k, k ∈ frFoot r (.slice (some ⟨g, o, none⟩) (q + 1) c) → k ∉ M'.foot b := fun k hk hk' => by
    rcases hf k hk' with h1 | h1
    · exact (hd k hk).1 h1
    · have := hlt0 k hk; omega
  have hgr : g ≠ r := fun e => hr.ll (by rw [e]; rfl)
  have T1 : Frm.Turn [r] wc (((wc.setCell ⟨r, 2, none⟩ (.slice (some ⟨g, if c = 1 then o else o + 1, none⟩) q (c - 1))).setCell ⟨r, 0, none⟩ (nextOf q (frNext r))).drew) :=
    (((Frm.Turn.refl _ wc).setCell (p := ⟨r, 2, none⟩) (.inl (by simp)) _).setCell (p := ⟨r, 0, none⟩) (.inl (by simp)) _).drew
  refine ⟨M', .slice (some ⟨g, if c = 1 then o else o + 1, none⟩) q (c - 1), hs.apart T1 (fun k hk hk' => by simp at hk'; subst hk'; exact hno k (mem_ffoot.2 (.inl rfl)) hk) (fun k hk => by simp at hk; subst hk; exact (hd k (mem_ffoot.2 (.inl rfl))).2), ⟨?_, ?_, ?_⟩, ?_, ?_, hf, ?_⟩
  · rw [← hq]
    exact FrBody.turn ((hr.body.set.2 _).set.1 _) (Frm.Turn.refl [] _).drew (by simp)
  · refine .inr ⟨g, if c = 1 then o else o + 1, c - 1, by rw [hq], by omega, by omega, fun j u hu => ?_⟩
    have hcl := hcell (j + 1) u (by simpa [u64s] using hu)
    have hne : c ≠ 1 := by
      have h0 : 0 < L.length := by
        cases L with
        | nil => simp [u64s] at hu
        | cons y t => simp
      omega
    rw [if_neg hne] at T1 ⊢
    have e : o + (j + 1) = o + 1 + j := by omega
    rw [e] at hcl
    exact T1.cell hcl (by simpa using hgr)
  · simp [Value.ownBlock]; exact hgr
  · intro k hk
    have hk2 : k ∈ frFoot r (.slice (some ⟨g, o, none⟩) (q + 1) c) := by
      rcases mem_ffoot.1 hk with rfl | hk
      · exact mem_ffoot.2 (.inl rfl)
      · simp [Value.ownBlock] at hk; subst hk; exact mem_ffoot.2 (.inr rfl)
    exact ⟨hno k hk2, (hd k hk2).2⟩
  · exact (hT.mono (by simp +contextual)).trans T1 (fun k hk => .inl (by simp at hk; subst hk; simp [frFoot]))
  · intro k hk
    rcases mem_ffoot.1 hk with rfl | hk
    · exact mem_ffoot.2 (.inl rfl)
    · simp [Value.ownBlock] at hk; subst hk; exact mem_ffoot.2 (.inr rfl)

set_option maxRecDepth 100000 in
set_option maxHeartbeats 1000000 in
theorem ffree_any {w wd : World} {r b n : Nat} {M : Mem} {A : Ar} {h0 : Int} {L : List Int} {lv : Value} (h : Sin w b M A n wd) (hn : n ≤ 10000000) (hr : FrAt wd r b (h0 :: L) lv)
    (hd : ∀ k, k ∈ frFoot r lv → k ∉ M.foot b ∧ w.heap.size ≤ k) (hL : L.length ≤ 60000) (hb : W64 h0) :
    Calls Try.prog 101 #[.pointer (some ⟨r, 0, none⟩)] wd fun e w' => e = .returned (.tuple #[]) ∧ FrAfter w r b M lv (A.free h0).1 (n + 1) L wd w' := by
  have HRD := Lib.hid (sin_free (h.step ((Frm.Turn.refl [] wd).drew)) (by omega) h0 hb)
  obtain ⟨g, o, c, rfl, hlc, hcm, hcells⟩ : ∃ g o c, lv = .slice (some ⟨g, o, none⟩) (L.length + 1) c ∧ L.length + 1 ≤ c ∧ c ≤ maxLen ∧ ∀ j u, (u64s (h0 :: L))[j]? = some u → wd.cell? ⟨g, o + j, none⟩ = some u := by
    rcases hr.left with ⟨_, h2⟩ | ⟨g, o, c, h1, h2⟩
    · cases h2
    · exact ⟨g, o, c, h1, h2⟩
  obtain ⟨q, HQ⟩ : ∃ q, Hid (q = L.length) := ⟨_, Lib.hid rfl⟩
  obtain ⟨A', HA⟩ : ∃ v, Hid (v = (A.free h0).1) := ⟨_, Lib.hid rfl⟩
  obtain ⟨ee, HE⟩ : ∃ v, Hid (v = (A.free h0).2) := ⟨_, Lib.hid rfl⟩
  rw [← HA.out, ← HE.out] at HRD
  rw [← HA.out]
  rw [← HQ.out] at hlc hr hd hL ⊢
  have HH := Lib.hid h
  have HR := Lib.hid hr
  have HD := Lib.hid hd
  obtain ⟨k0, k1, k2⟩ := hr.body.cells
  have a0 : wd.cell? ⟨g, o, none⟩ = some (.int .u64 h0) := hcells 0 _ rfl
  have q1 : (0 : Int) < (q : Int) + 1 := by omega
  clear h hr hd hcells
  go_enter Try.func101, Try.ntmps101
  go_wp2_with fail
  go_cut [12] (fun s12 W1 => After w b M A' (n + 1) wd.drew W1)
  case first =>
    go_region_with ((go_at_call 16; (with_reducible refine (HRD.out).mono ?_); rintro e w1 ⟨rfl, ha⟩; have HA1 := Lib.hid ha; clear ha))
    all_goals go_wp2_with fail
    all_goals go_meet
    all_goals exact HA1.out
  case rest =>
    obtain ⟨M', hs, hT, hf⟩ := hcut
    have HT0 := Lib.hid (show Frm.Turn (M.foot b) wd wc from ((Frm.Turn.refl _ wd).drew).trans hT (fun k hk => .inl hk))
    have HS := Lib.hid hs
    have HF := Lib.hid (show ∀ k, k ∈ M'.foot b → k ∈ M.foot b ∨ wd.heap.size ≤ k from hf)
    have hr1 := HR.out.turn HT0.out (fun k hk => (HD.out k hk).1)
    obtain ⟨x0, hx0⟩ : ∃ x, FrBody wc r b x (.slice (some ⟨g, o, none⟩) (q + 1) c) := ⟨_, hr1.body⟩
    have HX0 := Lib.hid hx0
    obtain ⟨c0, c1, c2⟩ := hx0.cells
    have f2 := hx0.thaw 2
    obtain ⟨o2, HO2⟩ : ∃ o2, Hid (o2 = if c = 1 then o else o + 1) := ⟨_, Lib.hid rfl⟩
    have htail : ∀ W2, (Instr.slice 42 (.slice (some ⟨g, o, none⟩) (q + 1) c) (some (.int .i64 1)) none none).run Try.prog W2 = .ok (.slice (some ⟨g, o2, none⟩) q (c - 1)) W2 := by rw [HO2.out]; exact run_tail_u g o q c hlc (by omega)
    clear hs hT hf hr1 hx0 k0 k1 k2 a0 HRD
    go_wp2_with fail
    have HB4 := Lib.hid (HX0.out.set.2 (.slice (some ⟨g, o2, none⟩) q (c - 1)))
    obtain ⟨w4, HW4⟩ : ∃ w4, Hid (w4 = wc.setCell ⟨r, 2, none⟩ (.slice (some ⟨g, o2, none⟩) q (c - 1))) := ⟨_, Lib.hid rfl⟩
    rw [← HW4.out] at HB4 ⊢
    clear c0 c1 c2 f2
    obtain ⟨d0, d1, d2⟩ := HB4.out.cells
    have HWH := Lib.hid (while_any r q x0 (frNext r) w4.drew (frNext_fn r) (by omega) d0 (HB4.out.thaw 0))
    have hmk := hmf
    unfold frNext at HWH
    go_region_with ((go_at_call 88; (with_reducible refine (HWH.out).mono ?_); rintro e w5 ⟨rfl, rfl⟩))
    all_goals go_wp2_with fail
    all_goals go_end0
    all_goals refine ⟨rfl, ?_⟩
    all_goals rw [HW4.out, HO2.out]
    all_goals exact fr_done HQ.out hlc hcm HH.out HS.out HT0.out HF.out HR.out HD.out
theorem enters_free : Enters Try.prog 101 := enters_of Try.func101 (by kernel_rfl) rfl
theorem fstep_more {w wd : World} {r b n : Nat} {M : Mem} {A : Ar} {h0 : Int} {L : List Int} {lv : Value} (h : Sin w b M A n wd) (hn : n ≤ 10000000) (hr : FrAt wd r b (h0 :: L) lv)
    (hd : ∀ k, k ∈ frFoot r lv → k ∉ M.foot b ∧ w.heap.size ≤ k) (hL : L.length ≤ 60000) (hb : W64 h0) :
    Calls Try.prog 80 #[.pointer (some ⟨r, 0, none⟩)] wd fun e w' => e = .returned (.tuple #[]) ∧ FrAfter w r b M lv (A.free h0).1 (n + 1) L wd w' := by
  have h1 := call_fn #[.pointer (some ⟨r, 0, none⟩)] #[] wd (R := fun w' => FrAfter w r b M lv (A.free h0).1 (n + 1) L wd w') enters_free (ffree_any h hn hr hd hL hb)
  have hc : wd.cell? ⟨r, 0, none⟩ = some (frNext r) := by
    rw [hr.body.cells.1]; rfl
  have h2 := gstep_any r (frNext r) wd hc h1
  have H := Lib.hid h2
  clear h1 h2 hc h hr hd
  go_enter Try.func80, Try.ntmps80
  go_wp2_with (go_at_call 39; (with_reducible refine (H.out).mono ?_); rintro e w1 ⟨rfl, hR⟩)
  go_end0
  exact ⟨rfl, hR⟩
theorem fstep_none {w : World} {r b : Nat} {lv : Value} (hr : FrAt w r b [] lv) :
    Calls Try.prog 80 #[.pointer (some ⟨r, 0, none⟩)] w fun e w' => e = .returned (.tuple #[]) ∧ w' = w := by
  have hc : w.cell? ⟨r, 0, none⟩ = some .nilFunc := hr.body.cells.1
  have H := Lib.hid (gstep_any r .nilFunc w hc (call_none w))
  clear hc hr
  go_enter Try.func80, Try.ntmps80
  go_wp2_with (go_at_call 39; (with_reducible refine (H.out).mono ?_); rintro e w1 ⟨rfl, hR⟩)
  go_end0
  subst hR
  exact ⟨rfl, rfl⟩
theorem fdone_any {w : World} {r b : Nat} {L : List Int} {lv : Value} (hr : FrAt w r b L lv) :
    Calls Try.prog 82 #[.pointer (some ⟨r, 0, none⟩)] w fun e w' => e = .returned (.bool (decide (L.length = 0))) ∧ w = w' := by
  have h1 := gdone_any r _ w (nextOf_fn L.length _ (frNext_fn r)) hr.body.cells.1
  rw [idle_next _ (frNext r) ⟨_, _, _, rfl⟩] at h1
  have H := Lib.hid h1
  clear h1 hr
  generalize decide (L.length = 0) = z at H ⊢
  go_enter Try.func82, Try.ntmps82
  go_wp2_with (go_at_call 40; (with_reducible refine (H.out).mono ?_); rintro e w1 ⟨rfl, rfl⟩)
  go_ret
  exact ⟨rfl, rfl⟩
theorem fleft_any {w : World} {r b : Nat} {L : List Int} {lv : Value} (hr : FrAt w r b L lv) (hL : L.length ≤ 65536) :
    Calls Try.prog 81 #[.pointer (some ⟨r, 0, none⟩)] w (UCloneOf w L) := by
  obtain ⟨_, _, c2⟩ := hr.body.cells
  have H := Lib.hid (uclone_any lv L w hr.left.words hL)
  clear hr
  go_enter Try.func81, Try.ntmps81
  go_wp2_with (go_at_call 60; (with_reducible refine (H.out).mono ?_); rintro e w1 ⟨ao, c, rfl, h⟩; have H1 := Lib.hid h; clear h)
  go_ret
  exact ⟨ao, c, rfl, H1.out⟩
set_option maxHeartbeats 1000000 in
theorem newFrees_any (b : Nat) (v : Value) (L : List Int) (w : World) (hv : WordsAt w v L) (hL : L.length ≤ 60000) :
    Calls Try.prog 79 #[.pointer (some ⟨b, 0, none⟩), v] w fun e w' => ∃ r lv, e = .returned (.pointer (some ⟨r, 0, none⟩)) ∧ FrAt w' r b L lv ∧ (∀ k, k ∈ frFoot r lv → w.heap.size ≤ k ∧ k < w'.heap.size) ∧ Frm.Turn [] w w' := by
  have HCL := Lib.hid (hclone_any v L w hv (by omega))
  clear hv
  obtain ⟨n, HN⟩ : ∃ n, Hid (n = L.length) := ⟨_, Lib.hid rfl⟩
  go_enter Try.func79, Try.ntmps79
  go_upto_region 2 with (go_at_call 60; (with_reducible refine (HCL.out).mono ?_); rintro e w1 ⟨ao, c, rfl, h1, h2, h3⟩; have H1 := Lib.hid h1; have H2 := Lib.hid h2; have H3 := Lib.hid h3; clear h1 h2 h3)
  rw [← HN.out] at hL ⊢
  have hb := World.alloc_heap_new w1 (.cells #[.nilFunc, .pointer (some ⟨b, 0, none⟩), .slice ao n c] 159)
  have HT := Lib.hid (H3.out.alloc (.cells #[.nilFunc, .pointer (some ⟨b, 0, none⟩), .slice ao n c] 159))
  have HT1 := Lib.hid ((Frm.Turn.refl [] w1).alloc (.cells #[.nilFunc, .pointer (some ⟨b, 0, none⟩), .slice ao n c] 159))
  have HS : Hid ((w1.alloc (.cells #[.nilFunc, .pointer (some ⟨b, 0, none⟩), .slice ao n c] 159)).heap.size = w1.heap.size + 1) := Lib.hid (by simp)
  generalize w1.alloc (.cells #[.nilFunc, .pointer (some ⟨b, 0, none⟩), .slice ao n c] 159) = w2 at hb HT HT1 HS ⊢
  obtain ⟨r, HRr⟩ : ∃ r, Hid (r = w1.heap.size) := ⟨_, Lib.hid rfl⟩
  rw [← HRr.out] at hb ⊢
  have HB : Hid (FrBody w2 r b .nilFunc (.slice ao n c)) := Lib.hid hb
  clear hb
  obtain ⟨c0, c1, c2⟩ := HB.out.cells
  have HWH := Lib.hid (while_any r n .nilFunc (frNext r) w2.drew (frNext_fn r) (by omega) c0 (HB.out.thaw 0))
  have hmk := hmf
  unfold frNext at HWH
  go_region_with ((go_at_call 88; (with_reducible refine (HWH.out).mono ?_); rintro e w5 ⟨rfl, rfl⟩))
  all_goals go_wp2_with fail
  all_goals go_ret
  all_goals
    have hw1 := H3.out.size
    have hrw : r < w2.heap.size := by rw [HS.out, HRr.out]; omega
    have T2 : Frm.Turn [r] w2 ((w2.setCell ⟨r, 0, none⟩ (nextOf n (.func (.func 101) #[.pointer (some ⟨r, 0, none⟩)] #[]))).drew) := ((Frm.Turn.refl _ w2).setCell (p := ⟨r, 0, none⟩) (.inl (by simp)) _).drew
    refine ⟨r, .slice ao n c, rfl, ⟨?_, ?_, ?_⟩, ?_, ?_⟩
    · rw [← HN.out]
      exact FrBody.turn (HB.out.set.1 _) (Frm.Turn.refl [] _).drew (by simp)
    · have h1 := H1.out
      rw [← HN.out] at h1
      refine (h1.turn HT1.out (by simp)).turn T2 (fun k hk hk' => ?_)
      simp at hk'; subst hk'
      have := (H2.out k (by rw [← HN.out]; exact hk)).2
      rw [HRr.out] at this; omega
    · intro e
      have := (H2.out r (by rw [← HN.out]; exact e)).2
      rw [HRr.out] at this; omega
    · intro k hk
      have hsz := T2.size
      rcases mem_ffoot.1 hk with rfl | hk
      · refine ⟨by rw [HRr.out]; exact hw1, by omega⟩
      · have := H2.out k (by rw [← HN.out]; exact hk)
        have := HT1.out.size
        exact ⟨by omega, by omega⟩
    · exact HT.out.trans T2 (fun k hk => by simp at hk; subst hk; right; rw [HRr.out]; exact hw1)
end Pac
end Go.Proofs.Ytkjcccjkfjebaaa
