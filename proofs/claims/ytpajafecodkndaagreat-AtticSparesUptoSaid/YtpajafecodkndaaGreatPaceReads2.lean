/- Lists of addresses in memory; their clones. -/
/- The machine that reads. -/
/- The machine that reads: made, stepped, asked. -/
import Derived.Test.YtpajafecodkndaaGreatArenaSmall
import Derived.Test.YtpajafecodkndaaGreatPaceCall
import Derived.Test.YtpajafecodkndaaGreatArenaSin
import Derived.Deep.RegionWith
set_option linter.unusedVariables false
set_option linter.unusedSimpArgs false
namespace Go.Proofs.YtpajafecodkndaaGreat
namespace Pac
open Go.RowKit Go.Maps Arn

def addrCells (l : List (Int × Int)) : List Value := l.flatMap fun x => [.int .u64 x.1, .int .i64 x.2]
theorem addrCells_length (l : List (Int × Int)) : (addrCells l).length = l.length * 2 := by
  induction l with
  | nil => rfl
  | cons x t ih => simp only [addrCells, List.flatMap_cons, List.length_append, List.length_cons, List.length_nil] at ih ⊢; omega
theorem addrCells_one (l : List (Int × Int)) : ∀ u ∈ addrCells l, u.oneCell' = true := by
  intro u hu
  simp only [addrCells, List.mem_flatMap] at hu
  obtain ⟨x, _, hx⟩ := hu
  simp at hx
  rcases hx with rfl | rfl <;> rfl
def AddrsAt (w : World) (v : Value) (l : List (Int × Int)) : Prop :=
  (v = .slice none 0 0 ∧ l = []) ∨ ∃ g o c, v = .slice (some ⟨g, o, none⟩) l.length c ∧ l.length ≤ c ∧ c ≤ maxLen ∧ ∀ j u, (addrCells l)[j]? = some u → w.cell? ⟨g, o + j, none⟩ = some u
theorem AddrsAt.turn {w w' : World} {v : Value} {l : List (Int × Int)} {F : List Nat} (h : AddrsAt w v l) (ht : Frm.Turn F w w') (hn : ∀ k, v.ownBlock = some k → k ∉ F) : AddrsAt w' v l := by
  rcases h with ⟨h1, h2⟩ | ⟨g, o, c, rfl, hc, hm, h1⟩
  · exact .inl ⟨h1, h2⟩
  · exact .inr ⟨g, o, c, rfl, hc, hm, fun j u hu => ht.cell (h1 j u hu) (hn g rfl)⟩
theorem info_addr : (Tryz.prog.info? 66).map (fun i => (i.zero, i.size, i.bytes)) = some (some (.agg #[.int .u64 0, .int .i64 0]), 2, 16) := by kernel_rfl
theorem under_addrs : Tryz.prog.underlying 223 = some (.slice 66) := by kernel_rfl
theorem add_at (g o k : Nat) : (⟨g, o, none⟩ : Addr).add k = ⟨g, o + k, none⟩ := by
  unfold Addr.add; split
  · rename_i e; simp [e]
  · simp
theorem aclone_nil (w : World) : Calls Tryz.prog 150 #[.slice none 0 0] w fun e w' => e = .returned (.slice none 0 0) ∧ w = w' := by
  have hq := fun w => Lib.run_eql_slice_nil (P := Tryz.prog) w 223 _ none 0 0 0 0 under_addrs
  go_enter Tryz.func150, Tryz.ntmps150
  go_wp2
  go_ret
  exact ⟨rfl, rfl⟩
/-- A clone of addresses: the same list, in a block that is new. -/
def ACloneOf (w : World) (l : List (Int × Int)) (e : Ending) (w' : World) : Prop :=
  ∃ ao c, e = .returned (.slice ao l.length c) ∧ AddrsAt w' (.slice ao l.length c) l ∧ (∀ k, (Value.slice ao l.length c).ownBlock = some k → w.heap.size ≤ k ∧ k < w'.heap.size) ∧ Frm.Turn [] w w'
set_option maxHeartbeats 1000000 in
theorem aclone_some (g o c : Nat) (l : List (Int × Int)) (w : World) (h : ∀ j u, (addrCells l)[j]? = some u → w.cell? ⟨g, o + j, none⟩ = some u) (hn : l.length ≤ 65536) :
    Calls Tryz.prog 150 #[.slice (some ⟨g, o, none⟩) l.length c] w (ACloneOf w l) := by
  have hq := fun w => Lib.run_eql_slice_nil (P := Tryz.prog) w 223 _ (some ⟨g, o, none⟩) l.length c 0 0 under_addrs
  have HT : Hid (∀ ob, ∀ j u, (addrCells l)[j]? = some u → (w.alloc ob).cell? ((⟨g, o, none⟩ : Addr).add j) = some u) := Lib.hid fun ob j u hu => by rw [add_at]; exact ((Frm.Turn.refl [] w).alloc ob).cell (h j u hu) (by simp)
  obtain ⟨i0, hi, hz0, hz1, hz2⟩ := info_parts info_addr
  have HO : Hid ((w.alloc (.cells #[] 66)).ownsRow 0 66 2 (.slice (some ⟨w.heap.size, 0, none⟩) 0 0) 0 []) := Lib.hid (World.ownsRow_made w #[] 0 (Nat.zero_le _) (by simp [maxLen]) (by simp))
  clear h
  obtain ⟨n, HN⟩ : ∃ n, Hid (n = l.length) := ⟨_, Lib.hid rfl⟩
  rw [← HN.out] at hn hq ⊢
  go_enter Tryz.func150, Tryz.ntmps150
  go_wp2_with (at_builtin; refine wpList_append_own_at _ rfl (.tmp 5) (.tmp 6) 223 rfl 0 66 i0 (.agg #[.int .u64 0, .int .i64 0]) 2 16 under_addrs hi hz0 hz1 hz2 rfl (by decide) (.slice (some ⟨w.heap.size, 0, none⟩) 0 0) 0 [] rfl HO.out ⟨g, o, none⟩ n c (addrCells l) rfl (by rw [addrCells_length, HN.out]) (HT.out _) (addrCells_one l) (by unfold maxLen; omega) (by omega) (Nat.zero_le _) ?_; intro v1 w3 hown3 hg3 _ hl3; simp only [Nat.zero_add, List.nil_append] at hown3; have HO3 := Lib.hid hown3; have HG3 := Lib.hid hg3; have HL3 := Lib.hid hl3; clear hown3 hg3 hl3)
  go_ret
  have hs3 := HG3.out.size
  simp at hs3
  have hbl : ∀ k, v1.ownBlock = some k → w.heap.size ≤ k := fun k hk => by
    rcases HL3.out with h | h <;> rw [h] at hk <;> simp [Value.ownBlock] at hk <;> omega
  have hne : v1.ownBlock ≠ none := by
    rcases HL3.out with h | h <;> rw [h] <;> simp [Value.ownBlock]
  have ho := HO3.out
  rw [HN.out] at ho
  rcases ho.2 with ⟨rfl, _⟩ | ⟨g', c', cur, rfl, _, _, q1, q2, _⟩
  · simp [Value.ownBlock] at hne
  · refine ⟨some ⟨g', 0, none⟩, c', rfl, .inr ⟨g', 0, c', rfl, q1, q2, fun j u hu => ?_⟩, fun k hk => ?_, ((Frm.Turn.refl [] w).alloc _).trans (Frm.Turn.of_grown HG3.out) (fun k hk => ?_)⟩
    · have := World.ownsRow.cells ho rfl j u hu
      rwa [add_at] at this
    · cases hk
      exact ⟨hbl g' rfl, (ho.lt g' rfl).2⟩
    · simp [Value.ownBlock] at hk; subst hk; right; omega
theorem aclone_any (v : Value) (l : List (Int × Int)) (w : World) (h : AddrsAt w v l) (hn : l.length ≤ 65536) :
    Calls Tryz.prog 150 #[v] w (ACloneOf w l) := by
  rcases h with ⟨rfl, rfl⟩ | ⟨g, o, c, rfl, _, _, h⟩
  · refine (aclone_nil w).mono ?_
    rintro e w' ⟨rfl, rfl⟩
    exact ⟨none, 0, rfl, .inl ⟨rfl, rfl⟩, fun k hk => by simp [Value.ownBlock] at hk, Frm.Turn.refl [] _⟩
  · exact aclone_some g o c l w h hn
/-- A clone of words, nil or not. -/
def UCloneOf (w : World) (l : List Int) (e : Ending) (w' : World) : Prop :=
  ∃ ao c, e = .returned (.slice ao l.length c) ∧ WordsAt w' (.slice ao l.length c) l ∧ (∀ k, (Value.slice ao l.length c).ownBlock = some k → w.heap.size ≤ k ∧ k < w'.heap.size) ∧ Frm.Turn [] w w'
theorem uclone_any (v : Value) (l : List Int) (w : World) (h : WordsAt w v l) (hn : l.length ≤ 65536) : Calls Tryz.prog 63 #[v] w (UCloneOf w l) := by
  rcases h with ⟨rfl, rfl⟩ | ⟨a, c, rfl, h⟩
  · refine (uclone_nil w).mono ?_
    rintro e w' ⟨rfl, rfl⟩
    exact ⟨none, 0, rfl, .inl ⟨rfl, rfl⟩, fun k hk => by simp [Value.ownBlock] at hk, Frm.Turn.refl [] _⟩
  · refine (uclone_some a c l w h hn).mono ?_
    rintro e w' ⟨g', c', rfl, h1, h2, h3⟩
    refine ⟨some ⟨g', 0, none⟩, c', rfl, .own h1, fun k hk => ?_, h3⟩
    cases hk
    exact ⟨h2, (h1.lt g' rfl).2⟩
end Pac
end Go.Proofs.YtpajafecodkndaaGreat

set_option linter.unusedVariables false
set_option linter.unusedSimpArgs false
namespace Go.Proofs.YtpajafecodkndaaGreat
namespace Pac
open Go.RowKit Go.Maps Arn

theorem row_turn {w w' : World} {base : Nat} {e : TypeId} {size n : Nat} {v : Value} {xs : List Value} {F : List Nat} (h : w.ownsRow base e size v n xs) (ht : Frm.Turn F w w') (hn : ∀ k, v.ownBlock = some k → k ∉ F) : w'.ownsRow base e size v n xs := by
  refine ⟨h.1, h.2.imp id ?_⟩
  rintro ⟨g, cap, cur, rfl, h1, h2, h3⟩
  exact ⟨g, cap, cur, rfl, h1, ht.keep h2 (hn g rfl), h3⟩
/-- What a machine that reads has in its box. -/
def RdBody (w : World) (r b : Nat) (x lv wv : Value) : Prop := w.heap[r]? = some (.cells #[x, .pointer (some ⟨b, 0, none⟩), lv, wv] 247 (0, 0))
theorem RdBody.cells {w : World} {r b : Nat} {x lv wv : Value} (h : RdBody w r b x lv wv) : w.cell? ⟨r, 0, none⟩ = some x ∧ w.cell? ⟨r, 1, none⟩ = some (.pointer (some ⟨b, 0, none⟩)) ∧ w.cell? ⟨r, 2, none⟩ = some lv ∧ w.cell? ⟨r, 3, none⟩ = some wv := by
  unfold RdBody at h
  refine ⟨?_, ?_, ?_, ?_⟩ <;> simp [World.cell?, h]
theorem RdBody.thaw {w : World} {r b : Nat} {x lv wv : Value} (h : RdBody w r b x lv wv) (i : Nat) : w.frozen? ⟨r, i, none⟩ = false := Frm.frozen_row w r i _ _ h
theorem RdBody.turn {w w' : World} {r b : Nat} {x lv wv : Value} {F : List Nat} (h : RdBody w r b x lv wv) (ht : Frm.Turn F w w') (hn : r ∉ F) : RdBody w' r b x lv wv := ht.keep h hn
theorem RdBody.set {w : World} {r b : Nat} {x lv wv : Value} (h : RdBody w r b x lv wv) :
    (∀ y, RdBody (w.setCell ⟨r, 0, none⟩ y) r b y lv wv) ∧ (∀ y, RdBody (w.setCell ⟨r, 2, none⟩ y) r b x y wv) ∧ (∀ y, RdBody (w.setCell ⟨r, 3, none⟩ y) r b x lv y) := by
  unfold RdBody at h ⊢
  refine ⟨fun y => ?_, fun y => ?_, fun y => ?_⟩ <;> rw [Frm.heap_set _ _ _ _ _ _ _ h] <;> simp
/-- The function that reads the next word of the machine in box r. -/
def rdNext (r : Nat) : Value := .func (.func 152) #[.pointer (some ⟨r, 0, none⟩)] #[]
theorem rdNext_fn (r : Nat) : IsFn (rdNext r) := isFn_func _ _ _
def rdFoot (r : Nat) (lv wv : Value) : List Nat := r :: (lv.ownBlock.toList ++ wv.ownBlock.toList)
structure RdAt (w : World) (r b : Nat) (L : List (Int × Int)) (W : List Int) (lv wv : Value) : Prop where
  body : RdBody w r b (nextOf L.length (rdNext r)) lv wv
  left : AddrsAt w lv L
  words : w.ownsRow 0 31 1 wv W.length (u64s W)
  ll : lv.ownBlock ≠ some r
  ww : wv.ownBlock ≠ some r
  lw : ∀ k, wv.ownBlock = some k → lv.ownBlock ≠ some k
theorem mem_foot {r k : Nat} {lv wv : Value} : k ∈ rdFoot r lv wv ↔ k = r ∨ lv.ownBlock = some k ∨ wv.ownBlock = some k := by
  simp [rdFoot]
theorem RdAt.turn {w w' : World} {r b : Nat} {L : List (Int × Int)} {W : List Int} {lv wv : Value} {F : List Nat} (h : RdAt w r b L W lv wv) (ht : Frm.Turn F w w') (hn : ∀ k, k ∈ rdFoot r lv wv → k ∉ F) : RdAt w' r b L W lv wv :=
  ⟨h.body.turn ht (hn r (mem_foot.2 (.inl rfl))), h.left.turn ht (fun k hk => hn k (mem_foot.2 (.inr (.inl hk)))), row_turn h.words ht (fun k hk => hn k (mem_foot.2 (.inr (.inr hk)))), h.ll, h.ww, h.lw⟩
theorem RdAt.lt {w : World} {r b : Nat} {L : List (Int × Int)} {W : List Int} {lv wv : Value} (h : RdAt w r b L W lv wv) (hl : ∀ k, lv.ownBlock = some k → k < w.heap.size) : ∀ k, k ∈ rdFoot r lv wv → k < w.heap.size := by
  intro k hk
  rcases mem_foot.1 hk with rfl | hk | hk
  · exact (Array.getElem?_eq_some_iff.1 h.body).1
  · exact hl k hk
  · exact (h.words.lt k hk).2
/-- Behind a step of a machine that reads. -/
def RdAfter (w : World) (r b : Nat) (M : Mem) (lv wv : Value) (A' : Ar) (n : Nat) (L : List (Int × Int)) (W : List Int) (wc w' : World) : Prop :=
  ∃ M' lv' wv', Sin w b M' A' n w' ∧ RdAt w' r b L W lv' wv' ∧ (∀ k, k ∈ rdFoot r lv' wv' → k ∉ M'.foot b ∧ w.heap.size ≤ k) ∧ Frm.Turn (M.foot b ++ rdFoot r lv wv) wc w' ∧
    (∀ k, k ∈ M'.foot b → k ∈ M.foot b ∨ wc.heap.size ≤ k) ∧ (∀ k, k ∈ rdFoot r lv' wv' → k ∈ rdFoot r lv wv ∨ (wc.heap.size ≤ k ∧ k < w'.heap.size))
theorem size_addr (w : World) : (sizeOf 66).run Tryz.prog w = .ok 2 w := by kernel_rfl
/-- x[1:] of addresses. -/
theorem run_tail (g o n c : Nat) (hc : n + 1 ≤ c) (hn : n ≤ 70000) (w : World) : (Instr.slice 223 (.slice (some ⟨g, o, none⟩) (n + 1) c) (some (.int .i64 1)) none none).run Tryz.prog w = .ok (.slice (some ⟨g, if c = 1 then o else o + 2, none⟩) n (c - 1)) w := by
  have hu := run_underlying under_addrs w
  have hs := size_addr
  have h1 : (1 : Int) ≤ ((n : Int) + 1) := by omega
  by_cases h : c = 1
  · simp [Instr.slice, Instr.sliceBounds, Instr.sliceBound, go_sem, hu, hs, h1, h, asIntOf]
  · simp [Instr.slice, Instr.sliceBounds, Instr.sliceBound, go_sem, hu, hs, h1, h, asIntOf, add_at]

theorem cell_one_new (w : World) (x : Value) (t : TypeId) (k : Nat) (hk : k = w.heap.size) : ∀ j u, [x][j]? = some u → (w.alloc (.cells #[x] t)).cell? ((⟨k, 0, none⟩ : Addr).add j) = some u := by
  intro j u hj
  subst hk
  match j, hj with
  | 0, hj =>
    simp at hj; subst hj
    have hb := World.alloc_heap_new w (.cells #[x] t)
    show (w.alloc (.cells #[x] t)).cell? ⟨w.heap.size, 0, none⟩ = _
    unfold World.cell?
    rw [hb]; rfl
theorem addrCells_cons (x : Int × Int) (l : List (Int × Int)) (j : Nat) : (addrCells (x :: l))[j + 2]? = (addrCells l)[j]? := by simp [addrCells]
/-- What a step of reading leaves, out of what its parts leave. -/
theorem rd_done {w wd wc w3 : World} {r b n g o c q : Nat} {M M' : Mem} {A A' : Ar} {blk i val : Int} {L : List (Int × Int)} {W : List Int} {wv v1 : Value} {ob : Obj} (hq : q = L.length) (hlc : q + 1 ≤ c) (hcm : c ≤ maxLen)
    (h : Sin w b M A n wd) (hs : Sin w b M' A' (n + 1) wc) (hT : Frm.Turn (M.foot b) wd wc) (hf : ∀ k, k ∈ M'.foot b → k ∈ M.foot b ∨ wd.heap.size ≤ k)
    (hr0 : RdAt wd r b ((blk, i) :: L) W (.slice (some ⟨g, o, none⟩) (q + 1) c) wv) (hd : ∀ k, k ∈ rdFoot r (.slice (some ⟨g, o, none⟩) (q + 1) c) wv → k ∉ M.foot b ∧ w.heap.size ≤ k)
    (hg : ((wc.setCell ⟨r, 2, none⟩ (.slice (some ⟨g, if c = 1 then o else o + 2, none⟩) q (c - 1))).alloc ob).grownBy w3 wv.ownBlock) (hown : w3.ownsRow 0 31 1 v1 (W.length + 1) (u64s W ++ [.int .u64 val]))
    (hl : v1.ownBlock = wv.ownBlock ∨ v1.ownBlock = some (wc.heap.size + 1)) :
    RdAfter w r b M (.slice (some ⟨g, o, none⟩) (q + 1) c) wv A' (n + 1) L (W ++ [val]) wd (((w3.setCell ⟨r, 3, none⟩ v1).setCell ⟨r, 0, none⟩ (nextOf q (rdNext r))).drew) := by
  have hr := hr0.turn hT (fun k hk => (hd k hk).1)
  obtain ⟨hlc1, hcm1, hcell⟩ : q + 1 ≤ c ∧ c ≤ maxLen ∧ ∀ j u, (addrCells ((blk, i) :: L))[j]? = some u → wc.cell? ⟨g, o + j, none⟩ = some u := by
    rcases hr.left with ⟨h1, _⟩ | ⟨g', o', c', h1, h2, h3, h4⟩
    · cases h1
    · simp only [Value.slice.injEq, Option.some.injEq, Addr.mk.injEq] at h1
      obtain ⟨⟨rfl, rfl, _⟩, _, rfl⟩ := h1
      exact ⟨hlc, hcm, h4⟩
  have hgl0 : g < wd.heap.size := by
    rcases hr0.left with ⟨h1, _⟩ | ⟨g', o', c', h1, h2, h3, h4⟩
    · cases h1
    · simp only [Value.slice.injEq, Option.some.injEq, Addr.mk.injEq] at h1
      obtain ⟨⟨rfl, rfl, _⟩, _, rfl⟩ := h1
      exact World.block_lt_of_cell? wd ⟨g, o + 0, none⟩ (h4 0 _ rfl)
  have hlt0 : ∀ k, k ∈ rdFoot r (.slice (some ⟨g, o, none⟩) (q + 1) c) wv → k < wd.heap.size := hr0.lt (fun k hk => by cases hk; exact hgl0)
  have hws := hT.size
  have T1 : Frm.Turn (r :: wv.ownBlock.toList) wc (((w3.setCell ⟨r, 3, none⟩ v1).setCell ⟨r, 0, none⟩ (nextOf q (rdNext r))).drew) :=
    (((((((Frm.Turn.refl _ wc).setCell (p := ⟨r, 2, none⟩) (.inl (by simp)) _).alloc ob).trans (Frm.Turn.of_grown hg) (fun k hk => .inl (by simp at hk ⊢; exact .inr hk))).setCell (p := ⟨r, 3, none⟩) (.inl (by simp)) v1).setCell (p := ⟨r, 0, none⟩) (.inl (by simp)) _).drew)
  have hsub : ∀ k, k ∈ r :: wv.ownBlock.toList → k ∈ rdFoot r (.slice (some ⟨g, o, none⟩) (q + 1) c) wv := fun k hk => by
    simp at hk
    exact mem_foot.2 (hk.elim .inl (fun e => .inr (.inr e)))
  have hno : ∀ k, k ∈ rdFoot r (.slice (some ⟨g, o, none⟩) (q + 1) c) wv → k ∉ M'.foot b := fun k hk hk' => by
    rcases hf k hk' with h1 | h1
    · exact (hd k hk).1 h1
    · have := hlt0 k hk; omega
  have hgr : g ≠ r := fun e => hr.ll (by rw [e]; rfl)
  have hgw : ∀ k, wv.ownBlock = some k → g ≠ k := fun k hk e => hr.lw k hk (by rw [← e]; rfl)
  have hrlt : r < wd.heap.size := hlt0 r (mem_foot.2 (.inl rfl))
  have hv1 : ∀ k, v1.ownBlock = some k → wv.ownBlock = some k ∨ k = wc.heap.size + 1 := fun k hk => by
    rcases hl with e | e
    · left; rw [← e]; exact hk
    · right; rw [e] at hk; cases hk; rfl
  have hv1r : v1.ownBlock ≠ some r := fun e => by
    rcases hv1 r e with h1 | h1
    · exact hr.ww h1
    · omega
  have hb2 := (hr.body.set.2.1 (.slice (some ⟨g, if c = 1 then o else o + 2, none⟩) q (c - 1)))
  have hb3 : RdBody w3 r b (nextOf ((blk, i) :: L).length (rdNext r)) (.slice (some ⟨g, if c = 1 then o else o + 2, none⟩) q (c - 1)) wv :=
    (hb2.turn ((Frm.Turn.refl [] _).alloc ob) (by simp)).turn (Frm.Turn.of_grown hg) (by simp; exact fun e => hr.ww e)
  have hb5 : RdBody (((w3.setCell ⟨r, 3, none⟩ v1).setCell ⟨r, 0, none⟩ (nextOf q (rdNext r))).drew) r b (nextOf L.length (rdNext r)) (.slice (some ⟨g, if c = 1 then o else o + 2, none⟩) q (c - 1)) v1 := by
    rw [← hq]
    exact RdBody.turn ((hb3.set.2.2 v1).set.1 _) (Frm.Turn.refl [] _).drew (by simp)
  refine ⟨M', .slice (some ⟨g, if c = 1 then o else o + 2, none⟩) q (c - 1), v1, hs.apart T1 (fun k hk hk' => hno k (hsub k hk') hk) (fun k hk => (hd k (hsub k hk)).2), ⟨hb5, ?_, ?_, ?_, hv1r, ?_⟩, ?_, ?_, hf, ?_⟩
  · refine .inr ⟨g, if c = 1 then o else o + 2, c - 1, by rw [hq], by omega, by omega, fun j u hu => ?_⟩
    have hcl := hcell (j + 2) u (by rw [addrCells_cons]; exact hu)
    have hne : c ≠ 1 := by
      have h0 : 0 < L.length := by
        cases L with
        | nil => simp [addrCells] at hu
        | cons y t => simp
      omega
    rw [if_neg hne]
    have e : o + (j + 2) = o + 2 + j := by omega
    rw [e] at hcl
    exact T1.cell hcl (by simp; exact ⟨hgr, fun e => hgw g e rfl⟩)
  · have hlen : (W ++ [val]).length = W.length + 1 := by simp
    have hu : u64s (W ++ [val]) = u64s W ++ [.int .u64 val] := by simp [u64s]
    rw [hlen, hu]
    have T3 : Frm.Turn [r] w3 (((w3.setCell ⟨r, 3, none⟩ v1).setCell ⟨r, 0, none⟩ (nextOf q (rdNext r))).drew) := (((Frm.Turn.refl _ w3).setCell (p := ⟨r, 3, none⟩) (.inl (by simp)) v1).setCell (p := ⟨r, 0, none⟩) (.inl (by simp)) _).drew
    exact row_turn hown T3 (fun k hk e => by simp at e; subst e; exact hv1r hk)
  · simp [Value.ownBlock]; exact hgr
  · intro k hk e
    simp [Value.ownBlock] at e
    rcases hv1 k hk with h1 | h1
    · exact hgw k h1 e
    · omega
  · intro k hk
    rcases mem_foot.1 hk with rfl | hk | hk
    · exact ⟨hno _ (mem_foot.2 (.inl rfl)), (hd _ (mem_foot.2 (.inl rfl))).2⟩
    · simp [Value.ownBlock] at hk; subst hk
      exact ⟨hno _ (mem_foot.2 (.inr (.inl rfl))), (hd _ (mem_foot.2 (.inr (.inl rfl)))).2⟩
    · rcases hv1 k hk with h1 | h1
      · exact ⟨hno _ (mem_foot.2 (.inr (.inr h1))), (hd _ (mem_foot.2 (.inr (.inr h1)))).2⟩
      · exact ⟨fun hk' => by have := hs.lt hk'; omega, by have := hs.turn.size; omega⟩
  · exact hT.mono (by simp +contextual) |>.trans T1 (fun k hk => .inl (by have := hsub k hk; simp [this]))
  · intro k hk
    rcases mem_foot.1 hk with rfl | hk | hk
    · exact .inl (mem_foot.2 (.inl rfl))
    · simp [Value.ownBlock] at hk; subst hk
      exact .inl (mem_foot.2 (.inr (.inl rfl)))
    · rcases hv1 k hk with h1 | h1
      · exact .inl (mem_foot.2 (.inr (.inr h1)))
      · right; exact ⟨by omega, Nat.lt_of_lt_of_le (hown.lt k hk).2 ((((Frm.Turn.refl [r] w3).setCell (p := ⟨r, 3, none⟩) (.inl (by simp)) v1).setCell (p := ⟨r, 0, none⟩) (.inl (by simp)) (nextOf q (rdNext r))).drew).size⟩

set_option maxRecDepth 100000 in
set_option maxHeartbeats 1000000 in
theorem read_any {w wd : World} {r b n : Nat} {M : Mem} {A : Ar} {blk i : Int} {L : List (Int × Int)} {W : List Int} {lv wv : Value} (h : Sin w b M A n wd) (hn : n ≤ 10000000) (hr : RdAt wd r b ((blk, i) :: L) W lv wv)
    (hd : ∀ k, k ∈ rdFoot r lv wv → k ∉ M.foot b ∧ w.heap.size ≤ k) (hW : W.length ≤ 60000) (hL : L.length ≤ 60000) (hb : W64 blk) (hi : (Lit.int .i64 i).wf = true) :
    Calls Tryz.prog 152 #[.pointer (some ⟨r, 0, none⟩)] wd fun e w' => e = .returned (.tuple #[]) ∧ RdAfter w r b M lv wv (A.read blk i).1 (n + 1) L (W ++ [(A.read blk i).2.1]) wd w' := by
  have HRD := Lib.hid (sin_read (h.step ((Frm.Turn.refl [] wd).drew)) (by omega) blk i hb hi)
  obtain ⟨g, o, c, rfl, hlc, hcm, hcells⟩ : ∃ g o c, lv = .slice (some ⟨g, o, none⟩) (L.length + 1) c ∧ L.length + 1 ≤ c ∧ c ≤ maxLen ∧ ∀ j u, (addrCells ((blk, i) :: L))[j]? = some u → wd.cell? ⟨g, o + j, none⟩ = some u := by
    rcases hr.left with ⟨_, h2⟩ | ⟨g, o, c, h1, h2⟩
    · cases h2
    · exact ⟨g, o, c, h1, h2⟩
  obtain ⟨q, HQ⟩ : ∃ q, Hid (q = L.length) := ⟨_, Lib.hid rfl⟩
  obtain ⟨val, HV⟩ : ∃ v, Hid (v = (A.read blk i).2.1) := ⟨_, Lib.hid rfl⟩
  obtain ⟨ee, HE⟩ : ∃ v, Hid (v = (A.read blk i).2.2) := ⟨_, Lib.hid rfl⟩
  obtain ⟨A', HA⟩ : ∃ v, Hid (v = (A.read blk i).1) := ⟨_, Lib.hid rfl⟩
  rw [← HV.out, ← HE.out, ← HA.out] at HRD
  rw [← HV.out, ← HA.out]
  rw [← HQ.out] at hlc hr hd hL ⊢
  have HH := Lib.hid h
  have HR := Lib.hid hr
  have HD := Lib.hid hd
  have HC := Lib.hid hcells
  obtain ⟨k0, k1, k2, k3⟩ := hr.body.cells
  have a0 : wd.cell? ⟨g, o, none⟩ = some (.int .u64 blk) := hcells 0 _ rfl
  have a1 : wd.cell? ⟨g, o + 1, none⟩ = some (.int .i64 i) := hcells 1 _ rfl
  have q1 : (0 : Int) < (q : Int) + 1 := by omega
  clear h hr hd hcells
  go_enter Tryz.func152, Tryz.ntmps152
  go_wp2_with fail
  go_cut [2] (fun s2 W1 => s2 = .int .u64 val ∧ After w b M A' (n + 1) wd.drew W1)
  case first =>
    go_region_with ((go_at_call 58; (with_reducible refine (HRD.out).mono ?_); rintro e w1 ⟨rfl, ha⟩; have HA1 := Lib.hid ha; clear ha))
    all_goals go_wp2_with fail
    all_goals go_meet
    all_goals exact ⟨rfl, HA1.out⟩
  case rest =>
    obtain ⟨rfl, M', hs, hT, hf⟩ := hcut
    have HT0 := Lib.hid (show Frm.Turn (M.foot b) wd wc from ((Frm.Turn.refl _ wd).drew).trans hT (fun k hk => .inl hk))
    have HS := Lib.hid hs
    have HF := Lib.hid (show ∀ k, k ∈ M'.foot b → k ∈ M.foot b ∨ wd.heap.size ≤ k from hf)
    have hr1 := HR.out.turn HT0.out (fun k hk => (HD.out k hk).1)
    obtain ⟨x0, hx0⟩ : ∃ x, RdBody wc r b x (.slice (some ⟨g, o, none⟩) (q + 1) c) wv := ⟨_, hr1.body⟩
    have HX0 := Lib.hid hx0
    have HW0 := Lib.hid hr1.words
    have HWW := Lib.hid hr1.ww
    obtain ⟨c0, c1, c2, c3⟩ := hx0.cells
    have f2 := hx0.thaw 2
    obtain ⟨o2, HO2⟩ : ∃ o2, Hid (o2 = if c = 1 then o else o + 2) := ⟨_, Lib.hid rfl⟩
    have htail : ∀ W2, (Instr.slice 223 (.slice (some ⟨g, o, none⟩) (q + 1) c) (some (.int .i64 1)) none none).run Tryz.prog W2 = .ok (.slice (some ⟨g, o2, none⟩) q (c - 1)) W2 := by rw [HO2.out]; exact run_tail g o q c hlc (by omega)
    obtain ⟨i0, hi0, hz0, hz1, hz2⟩ := info_parts info_u64
    have HNW : Hid (W.length ≤ 60000) := Lib.hid hW
    clear hs hT hf hr1 hx0 k0 k1 k2 k3 a0 a1 HRD
    obtain ⟨ao, wl, wcap, hwv⟩ : ∃ ao wl wcap, wv = .slice ao wl wcap := by
      rcases HW0.out.2 with ⟨e, _⟩ | ⟨g', cap', cur', e, _⟩ <;> exact ⟨_, _, _, e⟩
    have HWV := Lib.hid hwv
    clear hwv
    go_wp2_with (at_builtin; refine wpList_append_own_at _ rfl (.tmp 30) (.tmp 32) 25 rfl 0 31 i0 (.int .u64 0) 1 8 under_u64s hi0 hz0 hz1 hz2 rfl (by decide) wv W.length (u64s W) rfl (row_turn HW0.out ((((Frm.Turn.refl _ wc).setCell (p := ⟨r, 2, none⟩) (.inl (by simp)) _).alloc _)) (F := [r]) (fun k hk e => by simp at e; subst e; exact HWW.out hk)) ⟨wc.heap.size, 0, none⟩ 1 1 [.int .u64 val] rfl rfl (cell_one_new _ _ _ _ (by simp)) (by simp [Value.oneCell']) (by have := HNW.out; unfold maxLen; omega) (by have := HNW.out; omega) (Nat.zero_le _) ?_; intro v1 w3 hown3 hg3 _ hl3; obtain ⟨ao1, c1', rfl⟩ := Frm.row_form hown3; have hb3 := (((HX0.out.set.2.1 _).turn ((Frm.Turn.refl [] _).alloc _) (by simp)).turn (Frm.Turn.of_grown hg3) (by simp; exact fun e => HWW.out e)); obtain ⟨d0, d1, d2, d3⟩ := hb3.cells; have e0 := hb3.thaw 0; have e3 := hb3.thaw 3; have HO3 := Lib.hid hown3; have HG3 := Lib.hid hg3; have HL3 := Lib.hid hl3; have HB3 := Lib.hid hb3; clear hown3 hg3 hl3 hb3)
    have HB4 := Lib.hid (HB3.out.set.2.2 (.slice ao1 (W.length + 1) c1'))
    obtain ⟨w4, HW4⟩ : ∃ w4, Hid (w4 = w3.setCell ⟨r, 3, none⟩ (.slice ao1 (W.length + 1) c1')) := ⟨_, Lib.hid rfl⟩
    rw [← HW4.out] at HB4 ⊢
    clear d0 d1 d2 d3 e0 e3 c0 c1 c2 c3 f2
    obtain ⟨d0, d1, d2, d3⟩ := HB4.out.cells
    have HWH := Lib.hid (while_any r q x0 (rdNext r) w4.drew (rdNext_fn r) (by omega) d0 (HB4.out.thaw 0))
    have hmk := hmf
    unfold rdNext at HWH
    go_region_with ((go_at_call 151; (with_reducible refine (HWH.out).mono ?_); rintro e w5 ⟨rfl, rfl⟩))
    all_goals go_wp2_with fail
    all_goals go_end0
    all_goals refine ⟨rfl, ?_⟩
    all_goals rw [HW4.out]
    all_goals have hl3 := HL3.out
    all_goals rw [HO2.out] at HG3
    all_goals exact rd_done HQ.out hlc hcm HH.out HS.out HT0.out HF.out (by have := HR.out; rw [HQ.out] at this ⊢; exact this) (by have := HD.out; exact this) HG3.out HO3.out (by simpa using hl3)
end Pac
end Go.Proofs.YtpajafecodkndaaGreat

set_option linter.unusedVariables false
set_option linter.unusedSimpArgs false
namespace Go.Proofs.YtpajafecodkndaaGreat
namespace Pac
open Go.RowKit Go.Maps Arn

theorem enters_read : Enters Tryz.prog 152 := enters_of Tryz.func152 (by kernel_rfl) rfl
theorem rstep_more {w wd : World} {r b n : Nat} {M : Mem} {A : Ar} {blk i : Int} {L : List (Int × Int)} {W : List Int} {lv wv : Value} (h : Sin w b M A n wd) (hn : n ≤ 10000000) (hr : RdAt wd r b ((blk, i) :: L) W lv wv)
    (hd : ∀ k, k ∈ rdFoot r lv wv → k ∉ M.foot b ∧ w.heap.size ≤ k) (hW : W.length ≤ 60000) (hL : L.length ≤ 60000) (hb : W64 blk) (hi : (Lit.int .i64 i).wf = true) :
    Calls Tryz.prog 227 #[.pointer (some ⟨r, 0, none⟩)] wd fun e w' => e = .returned (.tuple #[]) ∧ RdAfter w r b M lv wv (A.read blk i).1 (n + 1) L (W ++ [(A.read blk i).2.1]) wd w' := by
  have h1 := call_fn #[.pointer (some ⟨r, 0, none⟩)] #[] wd (R := fun w' => RdAfter w r b M lv wv (A.read blk i).1 (n + 1) L (W ++ [(A.read blk i).2.1]) wd w') enters_read (read_any h hn hr hd hW hL hb hi)
  have hc : wd.cell? ⟨r, 0, none⟩ = some (rdNext r) := by
    rw [hr.body.cells.1]; rfl
  have h2 := gstep_any r (rdNext r) wd hc h1
  have H := Lib.hid h2
  clear h1 h2 hc h hr hd
  go_enter Tryz.func227, Tryz.ntmps227
  go_wp2_with (go_at_call 73; (with_reducible refine (H.out).mono ?_); rintro e w1 ⟨rfl, hR⟩)
  go_end0
  exact ⟨rfl, hR⟩
theorem rstep_none {w : World} {r b : Nat} {W : List Int} {lv wv : Value} (hr : RdAt w r b [] W lv wv) :
    Calls Tryz.prog 227 #[.pointer (some ⟨r, 0, none⟩)] w fun e w' => e = .returned (.tuple #[]) ∧ w' = w := by
  have hc : w.cell? ⟨r, 0, none⟩ = some .nilFunc := hr.body.cells.1
  have H := Lib.hid (gstep_any r .nilFunc w hc (call_none w))
  clear hc hr
  go_enter Tryz.func227, Tryz.ntmps227
  go_wp2_with (go_at_call 73; (with_reducible refine (H.out).mono ?_); rintro e w1 ⟨rfl, hR⟩)
  go_end0
  subst hR
  exact ⟨rfl, rfl⟩
theorem nextOf_fn (n : Nat) (v : Value) (h : IsFn v) : IsFn (nextOf n v) := by
  unfold nextOf; split
  · exact isFn_nil
  · exact h
theorem idle_next (n : Nat) (v : Value) (h : ∃ fn fi ca, v = .func fn fi ca) : idle (nextOf n v) = decide (n = 0) := by
  obtain ⟨fn, fi, ca, rfl⟩ := h
  unfold nextOf
  by_cases h : n = 0
  · rw [if_pos h]; simp [idle, h]
  · rw [if_neg h]; simp [idle, h]
theorem rdone_any {w : World} {r b : Nat} {L : List (Int × Int)} {W : List Int} {lv wv : Value} (hr : RdAt w r b L W lv wv) :
    Calls Tryz.prog 226 #[.pointer (some ⟨r, 0, none⟩)] w fun e w' => e = .returned (.bool (decide (L.length = 0))) ∧ w = w' := by
  have h1 := gdone_any r _ w (nextOf_fn L.length _ (rdNext_fn r)) hr.body.cells.1
  rw [idle_next _ (rdNext r) ⟨_, _, _, rfl⟩] at h1
  have H := Lib.hid h1
  clear h1 hr
  generalize decide (L.length = 0) = z at H ⊢
  go_enter Tryz.func226, Tryz.ntmps226
  go_wp2_with (go_at_call 76; (with_reducible refine (H.out).mono ?_); rintro e w1 ⟨rfl, rfl⟩)
  go_ret
  exact ⟨rfl, rfl⟩
theorem words_of_row {w : World} {v : Value} {l : List Int} (h : w.ownsRow 0 31 1 v l.length (u64s l)) : WordsAt w v l := by
  rcases h.2 with ⟨rfl, e⟩ | ⟨g, c, cur, rfl, _⟩
  · exact .inl ⟨rfl, List.length_eq_zero_iff.1 e⟩
  · exact .own h
theorem rwords_any {w : World} {r b : Nat} {L : List (Int × Int)} {W : List Int} {lv wv : Value} (hr : RdAt w r b L W lv wv) (hW : W.length ≤ 65536) :
    Calls Tryz.prog 153 #[.pointer (some ⟨r, 0, none⟩)] w (UCloneOf w W) := by
  obtain ⟨_, _, _, c3⟩ := hr.body.cells
  have H := Lib.hid (uclone_any wv W w (words_of_row hr.words) hW)
  clear hr
  go_enter Tryz.func153, Tryz.ntmps153
  go_wp2_with (go_at_call 63; (with_reducible refine (H.out).mono ?_); rintro e w1 ⟨ao, c, rfl, h⟩; have H1 := Lib.hid h; clear h)
  go_ret
  exact ⟨ao, c, rfl, H1.out⟩
set_option maxHeartbeats 1000000 in
theorem newReads_any (b : Nat) (v : Value) (L : List (Int × Int)) (w : World) (hv : AddrsAt w v L) (hL : L.length ≤ 60000) :
    Calls Tryz.prog 128 #[.pointer (some ⟨b, 0, none⟩), v] w fun e w' => ∃ r lv, e = .returned (.pointer (some ⟨r, 0, none⟩)) ∧ RdAt w' r b L [] lv (.slice none 0 0) ∧ (∀ k, k ∈ rdFoot r lv (.slice none 0 0) → w.heap.size ≤ k ∧ k < w'.heap.size) ∧ Frm.Turn [] w w' := by
  have HCL := Lib.hid (aclone_any v L w hv (by omega))
  clear hv
  obtain ⟨n, HN⟩ : ∃ n, Hid (n = L.length) := ⟨_, Lib.hid rfl⟩
  go_enter Tryz.func128, Tryz.ntmps128
  go_upto_region 2 with (go_at_call 150; (with_reducible refine (HCL.out).mono ?_); rintro e w1 ⟨ao, c, rfl, h1, h2, h3⟩; have H1 := Lib.hid h1; have H2 := Lib.hid h2; have H3 := Lib.hid h3; clear h1 h2 h3)
  rw [← HN.out] at hL ⊢
  have hb := World.alloc_heap_new w1 (.cells #[.nilFunc, .pointer (some ⟨b, 0, none⟩), .slice ao n c, .slice none 0 0] 247)
  have HT := Lib.hid (H3.out.alloc (.cells #[.nilFunc, .pointer (some ⟨b, 0, none⟩), .slice ao n c, .slice none 0 0] 247))
  have HT1 := Lib.hid ((Frm.Turn.refl [] w1).alloc (.cells #[.nilFunc, .pointer (some ⟨b, 0, none⟩), .slice ao n c, .slice none 0 0] 247))
  have HS : Hid ((w1.alloc (.cells #[.nilFunc, .pointer (some ⟨b, 0, none⟩), .slice ao n c, .slice none 0 0] 247)).heap.size = w1.heap.size + 1) := Lib.hid (by simp)
  generalize w1.alloc (.cells #[.nilFunc, .pointer (some ⟨b, 0, none⟩), .slice ao n c, .slice none 0 0] 247) = w2 at hb HT HT1 HS ⊢
  obtain ⟨r, HRr⟩ : ∃ r, Hid (r = w1.heap.size) := ⟨_, Lib.hid rfl⟩
  rw [← HRr.out] at hb ⊢
  have HB : Hid (RdBody w2 r b .nilFunc (.slice ao n c) (.slice none 0 0)) := Lib.hid hb
  clear hb
  obtain ⟨c0, c1, c2, c3⟩ := HB.out.cells
  have HWH := Lib.hid (while_any r n .nilFunc (rdNext r) w2.drew (rdNext_fn r) (by omega) c0 (HB.out.thaw 0))
  have hmk := hmf
  unfold rdNext at HWH
  go_region_with ((go_at_call 151; (with_reducible refine (HWH.out).mono ?_); rintro e w5 ⟨rfl, rfl⟩))
  all_goals go_wp2_with fail
  all_goals go_ret
  all_goals
    have hw1 := H3.out.size
    have hrw : r < w2.heap.size := by rw [HS.out, HRr.out]; omega
    have T2 : Frm.Turn [r] w2 ((w2.setCell ⟨r, 0, none⟩ (nextOf n (.func (.func 152) #[.pointer (some ⟨r, 0, none⟩)] #[]))).drew) := ((Frm.Turn.refl _ w2).setCell (p := ⟨r, 0, none⟩) (.inl (by simp)) _).drew
    refine ⟨r, .slice ao n c, rfl, ⟨?_, ?_, World.ownsRow_nil _ _ _ _, ?_, by simp [Value.ownBlock], by simp [Value.ownBlock]⟩, ?_, ?_⟩
    · rw [← HN.out]
      exact RdBody.turn (HB.out.set.1 _) (Frm.Turn.refl [] _).drew (by simp)
    · have h1 := H1.out
      rw [← HN.out] at h1
      refine (h1.turn HT1.out (by simp)).turn T2 (fun k hk hk' => ?_)
      simp at hk'; subst hk'
      have := (H2.out k (by rw [← HN.out]; exact hk)).2
      rw [HRr.out] at this; omega
    · intro e
      have := (H2.out r (by rw [← HN.out]; exact e)).2
      rw [HRr.out] at this; omega
    · intro k hk
      have hsz := T2.size
      rcases mem_foot.1 hk with rfl | hk | hk
      · refine ⟨by rw [HRr.out]; exact hw1, by omega⟩
      · have := H2.out k (by rw [← HN.out]; exact hk)
        have := HT1.out.size
        exact ⟨by omega, by omega⟩
      · simp [Value.ownBlock] at hk
    · exact HT.out.trans T2 (fun k hk => by simp at hk; subst hk; right; rw [HRr.out]; exact hw1)
end Pac
end Go.Proofs.YtpajafecodkndaaGreat
