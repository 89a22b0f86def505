/- The machine that lays: made. -/
import Derived.Test.YtkjcccjkfjebaaaPaceLays
set_option linter.unusedVariables false
set_option linter.unusedSimpArgs false
namespace Go.Proofs.Ytkjcccjkfjebaaa
namespace Pac
open Go.RowKit Go.Maps Arn

theorem info_u64s : (Try.prog.info? 42).map (fun i => (i.zero, i.size, i.bytes)) = some (some (.slice none 0 0), 1, 24) := by kernel_rfl
/-- Between two rounds of NewLays. -/
structure NlAt (w : World) (r b : Nat) (R0 : List RowV) (k : Nat) (R : List RowV) (lv : Value) (wr : World) : Prop where
  body : LyBody wr r b .nilFunc lv (.slice none 0 0) 0
  row : wr.ownsRow 0 42 1 lv R.length (R.map Prod.fst)
  words : ∀ x, x ∈ R → WordsAt wr x.1 x.2
  same : R.map Prod.snd = (R0.take k).map Prod.snd
  ll : lv.ownBlock ≠ some r
  rr : r ∉ rowBlocks R
  lr : ∀ k, lv.ownBlock = some k → k ∉ rowBlocks R
  new : ∀ k, k ∈ lyFoot r lv (.slice none 0 0) R → w.heap.size ≤ k ∧ k < wr.heap.size
  turn : Frm.Turn [] w wr
theorem rowBlocks_snoc {R : List RowV} {x : RowV} {k : Nat} : k ∈ rowBlocks (R ++ [x]) ↔ k ∈ rowBlocks R ∨ x.1.ownBlock = some k := by simp [rowBlocks]
theorem nl_step {w wr w1 w3 : World} {r b k : Nat} {R0 R : List RowV} {x : RowV} {lv cv v1 : Value} (h : NlAt w r b R0 k R lv wr) (hx : R0[k]? = some x) (hc : WordsAt w1 cv x.2) (hcb : ∀ k, cv.ownBlock = some k → wr.heap.size ≤ k ∧ k < w1.heap.size) (hT : Frm.Turn [] wr w1)
    (hT3 : Frm.Turn lv.ownBlock.toList w1 w3) (hown : w3.ownsRow 0 42 1 v1 (R.length + 1) (R.map Prod.fst ++ [cv])) (hl : v1.ownBlock = lv.ownBlock ∨ ∃ s, v1.ownBlock = some s ∧ w1.heap.size ≤ s) :
    NlAt w r b R0 (k + 1) (R ++ [(cv, x.2)]) v1 (w3.setCell ⟨r, 2, none⟩ v1) := by
  have hs0 := h.turn.size
  have hs1 := hT.size
  have hs3 := hT3.size
  have hrl := h.new r (mem_lfoot.2 (.inl rfl))
  have hrb : ∀ k, k ∈ rowBlocks R → w.heap.size ≤ k ∧ k < wr.heap.size := fun k hk => h.new k (mem_lfoot.2 (.inr (.inr (.inr hk))))
  have hlb : ∀ k, lv.ownBlock = some k → w.heap.size ≤ k ∧ k < wr.heap.size := fun k hk => h.new k (mem_lfoot.2 (.inr (.inl hk)))
  have hv1 : ∀ k, v1.ownBlock = some k → lv.ownBlock = some k ∨ w1.heap.size ≤ k := fun k hk => by
    rcases hl with e | ⟨s, e, hs⟩
    · left; rw [← e]; exact hk
    · right; rw [e] at hk; cases hk; exact hs
  have hv1r : v1.ownBlock ≠ some r := fun e => by
    rcases hv1 r e with h1 | h1
    · exact h.ll h1
    · omega
  have hb3 : LyBody w3 r b .nilFunc lv (.slice none 0 0) 0 := (h.body.turn hT (by simp)).turn hT3 (by simp; exact fun e => h.ll e)
  have T4 : Frm.Turn [r] w3 (w3.setCell ⟨r, 2, none⟩ v1) := (Frm.Turn.refl _ w3).setCell (p := ⟨r, 2, none⟩) (.inl (by simp)) v1
  have T14 : Frm.Turn (r :: lv.ownBlock.toList) w1 (w3.setCell ⟨r, 2, none⟩ v1) := (hT3.mono (by simp +contextual)).trans T4 (fun k hk => .inl (by simp at hk; subst hk; simp))
  have hsz : w3.heap.size ≤ (w3.setCell ⟨r, 2, none⟩ v1).heap.size := T4.size
  refine ⟨hb3.set.2.1 v1, ?_, ?_, ?_, hv1r, ?_, ?_, ?_, ?_⟩
  · have h1 : (R ++ [(cv, x.2)]).length = R.length + 1 := by simp
    have h2 : (R ++ [(cv, x.2)]).map Prod.fst = R.map Prod.fst ++ [cv] := by simp
    rw [h1, h2]
    exact row_turn hown T4 (fun k hk e => by simp at e; subst e; exact hv1r hk)
  · intro y hy
    rcases List.mem_append.1 hy with hy | hy
    · refine ((h.words y hy).turn hT (by simp)).turn T14 (fun k hk hk' => ?_)
      have hk2 : k ∈ rowBlocks R := mem_rowBlocks.2 ⟨y, hy, hk⟩
      simp at hk'
      rcases hk' with rfl | hk'
      · exact h.rr hk2
      · exact h.lr k hk' hk2
    · simp at hy; subst hy
      refine hc.turn T14 (fun k hk hk' => ?_)
      have := hcb k hk
      simp at hk'
      rcases hk' with rfl | hk'
      · omega
      · have := hlb k hk'; omega
  · rw [List.map_append, h.same, List.take_add_one, hx]; simp
  · intro hk
    rcases rowBlocks_snoc.1 hk with hk | hk
    · exact h.rr hk
    · have := hcb r hk; omega
  · intro k hk hk'
    rcases rowBlocks_snoc.1 hk' with hk' | hk'
    · rcases hv1 k hk with h1 | h1
      · exact h.lr k h1 hk'
      · have := hrb k hk'; omega
    · have h2 := hcb k hk'
      rcases hv1 k hk with h1 | h1
      · have := hlb k h1; omega
      · omega
  · intro k hk
    rcases mem_lfoot.1 hk with rfl | hk | hk | hk
    · omega
    · have h2 := (hown.lt k hk).2
      rcases hv1 k hk with h1 | h1
      · have := hlb k h1; omega
      · omega
    · cases hk
    · rcases rowBlocks_snoc.1 hk with hk | hk
      · have := hrb k hk; omega
      · have := hcb k hk; omega
  · exact (h.turn.trans hT (by simp)).trans T14 (fun k hk => by
      right
      simp at hk
      rcases hk with rfl | hk
      · exact hrl.1
      · exact (hlb k hk).1)
theorem nl_end {w wr : World} {r b : Nat} {R0 R : List RowV} {lv : Value} (h : NlAt w r b R0 R0.length R lv wr) :
    R.length = R0.length ∧ R.map Prod.snd = R0.map Prod.snd ∧ LyAt ((wr.setCell ⟨r, 0, none⟩ (nextOf R.length (lyNext r))).drew) r b R [] 0 lv (.slice none 0 0) ∧ (∀ k, k ∈ lyFoot r lv (.slice none 0 0) R → w.heap.size ≤ k ∧ k < ((wr.setCell ⟨r, 0, none⟩ (nextOf R.length (lyNext r))).drew).heap.size) ∧ Frm.Turn [] w ((wr.setCell ⟨r, 0, none⟩ (nextOf R.length (lyNext r))).drew) := by
  have hsame := h.same
  rw [List.take_length] at hsame
  have hlen : R.length = R0.length := by have := congrArg List.length hsame; simpa using this
  have T4 : Frm.Turn [r] wr ((wr.setCell ⟨r, 0, none⟩ (nextOf R.length (lyNext r))).drew) := ((Frm.Turn.refl _ wr).setCell (p := ⟨r, 0, none⟩) (.inl (by simp)) _).drew
  have hrl := h.new r (mem_lfoot.2 (.inl rfl))
  refine ⟨hlen, hsame, ⟨LyBody.turn (h.body.set.1 _) (Frm.Turn.refl [] _).drew (by simp), ⟨?_, ?_⟩, World.ownsRow_nil _ _ _ _, h.ll, by simp [Value.ownBlock], h.rr, by simp [Value.ownBlock]⟩, fun k hk => ⟨(h.new k hk).1, Nat.lt_of_lt_of_le (h.new k hk).2 T4.size⟩, h.turn.trans T4 (fun k hk => by simp at hk; subst hk; exact .inr hrl.1)⟩
  · rcases h.row.2 with ⟨e1, e2⟩ | ⟨g, c, cur, e1, _, _, q1, q2, _⟩
    · exact .inl ⟨e1, List.length_eq_zero_iff.1 e2⟩
    · refine .inr ⟨g, 0, c, e1, q1, q2, fun j x hx => ?_⟩
      have hrow := h.row
      rw [e1] at hrow
      have h1 := World.ownsRow.cells hrow rfl j x.1 (by simp [hx])
      rw [add_at] at h1
      exact T4.cell h1 (by simp; intro e; subst e; exact h.ll (by rw [e1]; rfl))
  · exact fun x hx => (h.words x hx).turn T4 (fun k hk hk' => by simp at hk'; subst hk'; exact h.rr (mem_rowBlocks.2 ⟨x, hx, hk⟩))

set_option maxRecDepth 100000 in
set_option maxHeartbeats 2000000 in
theorem newLays_any (b : Nat) (v : Value) (R0 : List RowV) (w : World) (hv : RowsAt w v R0) (hL : R0.length ≤ 60000) (hW : ∀ x, x ∈ R0 → x.2.length ≤ 60000) :
    Calls Try.prog 76 #[.pointer (some ⟨b, 0, none⟩), v] w fun e w' => ∃ r lv R, e = .returned (.pointer (some ⟨r, 0, none⟩)) ∧ R.map Prod.snd = R0.map Prod.snd ∧ LyAt w' r b R [] 0 lv (.slice none 0 0) ∧ (∀ k, k ∈ lyFoot r lv (.slice none 0 0) R → w.heap.size ≤ k ∧ k < w'.heap.size) ∧ Frm.Turn [] w w' := by
  obtain ⟨ao, c, rfl⟩ : ∃ ao c, v = .slice ao R0.length c := by
    rcases hv.1 with ⟨rfl, rfl⟩ | ⟨g, o, c, rfl, _⟩
    · exact ⟨none, 0, rfl⟩
    · exact ⟨_, _, rfl⟩
  have HV := Lib.hid hv
  obtain ⟨n, HN⟩ : ∃ n, Hid (n = R0.length) := ⟨_, Lib.hid rfl⟩
  have HWL := Lib.hid hW
  obtain ⟨i0, hi0, hz0, hz1, hz2⟩ := info_parts info_u64s
  rw [← HN.out] at hL ⊢
  clear hv hW
  go_enter Try.func76, Try.ntmps76
  go_wp2_with fail
  have h0 : NlAt w w.heap.size b R0 0 [] (.slice none 0 0) (w.alloc (.cells #[.nilFunc, .pointer (some ⟨b, 0, none⟩), .slice none 0 0, .slice none 0 0, .int .i64 0] 139)) :=
    ⟨World.alloc_heap_new w _, World.ownsRow_nil _ _ _ _, by simp, by simp, by simp [Value.ownBlock], by simp [rowBlocks], by simp [Value.ownBlock], fun k hk => by
      rcases mem_lfoot.1 hk with rfl | hk | hk | hk
      · simp
      · cases hk
      · cases hk
      · simp [rowBlocks] at hk, (Frm.Turn.refl [] w).alloc _⟩
  generalize w.alloc (.cells #[.nilFunc, .pointer (some ⟨b, 0, none⟩), .slice none 0 0, .slice none 0 0, .int .i64 0] 139) = wq at h0 ⊢
  generalize w.heap.size = r at h0 ⊢
  go_loopw [13] (fun i wr => ∃ (k : Nat) (R : List RowV) (lv : Value), k ≤ n ∧ i = .int .i64 k ∧ NlAt w r b R0 k R lv wr) (fun i _ => n - (intOf i).toNat)
  case atStart => exact ⟨0, [], .slice none 0 0, Nat.zero_le _, rfl, h0⟩
  case round =>
    obtain ⟨k, R, lv, hk, rfl, hrel⟩ := hrel
    have HR := Lib.hid hrel
    clear hrel h0
    have hRk : R.length ≤ 60000 := by
      have := congrArg List.length HR.out.same
      simp at this; omega
    obtain ⟨la, lc, rfl⟩ := Frm.row_form HR.out.row
    obtain ⟨m, HM⟩ : ∃ m, Hid (m = R.length) := ⟨_, Lib.hid rfl⟩
    rw [← HM.out] at HR hRk
    obtain ⟨c0, c1, c2, c3, c4⟩ := HR.out.body.cells
    have f0 := HR.out.body.thaw 0
    have f2 := HR.out.body.thaw 2
    by_cases hlt : k < n
    · obtain ⟨x, hx⟩ : ∃ x, R0[k]? = some x := ⟨_, List.getElem?_eq_getElem (by rw [← HN.out]; exact hlt)⟩
      obtain ⟨g, o, rfl, hcx⟩ : ∃ g o, ao = some ⟨g, o, none⟩ ∧ wr.cell? ⟨g, o + k, none⟩ = some x.1 := by
        rcases HV.out.1 with ⟨e1, e2⟩ | ⟨g, o, c', e1, _, _, h4⟩
        · rw [e2] at hx; simp at hx
        · simp only [Value.slice.injEq] at e1
          exact ⟨g, o, e1.1, HR.out.turn.cell (h4 k x hx) (by simp)⟩
      have HCL : Hid (∀ W, Frm.Turn [] wr W → Calls Try.prog 60 #[x.1] W fun e w' => ∃ ao c, e = .returned (.slice ao x.2.length c) ∧ WordsAt w' (.slice ao x.2.length c) x.2 ∧ (∀ k, (Value.slice ao x.2.length c).ownBlock = some k → wr.heap.size ≤ k ∧ k < w'.heap.size) ∧ Frm.Turn [] wr w') :=
        Lib.hid fun W hT => (uclone_any x.1 x.2 W (((HV.out.2 x (List.mem_of_getElem? hx)).turn (HR.out.turn.trans hT (by simp)) (by simp))) (by have := HWL.out x (List.mem_of_getElem? hx); omega)).mono (by
          rintro e w' ⟨ao, c, h1, h2, h3, h4⟩
          have := hT.size
          exact ⟨ao, c, h1, h2, fun k hk => ⟨by have := (h3 k hk).1; omega, (h3 k hk).2⟩, hT.trans h4 (by simp)⟩)
      have HX := Lib.hid hx
      have HXL : Hid (x.2.length = x.2.length) := Lib.hid rfl
      clear hx
      obtain ⟨xv, xw⟩ := x
      dsimp only at hcx HCL
      have HRW : Hid (wr.ownsRow 0 42 1 (.slice la m lc) m (R.map Prod.fst)) := Lib.hid (by have := HR.out.row; rw [← HM.out] at this; exact this)
      go_upto_region 5 with fail
      go_region_law (first
        | (refine Frm.step_append_own rfl (.tmp 21) (.tmp 24) 84 rfl 42 i0 (.slice none 0 0) 1 24 under_rows hi0 hz0 hz1 hz2 rfl (by decide) 0 (.slice la m lc) m (R.map Prod.fst) rfl (row_turn HRW.out (HT1.out.alloc _) (by simp)) ⟨w1.heap.size, 0, none⟩ 1 1 [.slice ao1 xw.length c1'] rfl rfl (cell_one_new _ _ _ _ (by simp)) (by simp [Value.oneCell']) (by unfold maxLen; omega) (by omega) (by simp) ?_; intro v1 w3 hown3 hg3 hl3; obtain ⟨ao3, c3', rfl⟩ := Frm.row_form hown3; have hb3 := (HR.out.body.turn (HT1.out.alloc _) (by simp)).turn (Frm.Turn.of_grown hg3) (by simp; exact fun e => HR.out.ll e); obtain ⟨-, -, m2, -, -⟩ := hb3.cells; have f3 := hb3.thaw 2; clear hb3; have HO3 := Lib.hid hown3; have HG3 := Lib.hid hg3; have HL3 := Lib.hid hl3; clear hown3 hg3 hl3)
        | (go_simp; go_at_call 60; (with_reducible refine (HCL.out _ (by repeat (first | exact Frm.Turn.refl _ _ | apply Frm.Turn.drew))).mono ?_); rintro e w1 ⟨ao1, c1', rfl, h1, h2, h3⟩; have HH1 := Lib.hid h1; have HH2 := Lib.hid h2; have HT1 := Lib.hid h3; have hb1 := HR.out.body.turn h3 (by simp); obtain ⟨-, -, l2, -, -⟩ := hb1.cells; have l3 : ∀ ob, (w1.alloc ob).cell? ⟨r, 2, none⟩ = some (.slice la m lc) := (fun ob => ((hb1.turn ((Frm.Turn.refl [] _).alloc ob) (by simp)).cells).2.2.1); clear h1 h2 h3 hb1))
      all_goals go_wp2_with fail
      all_goals refine ⟨⟨k + 1, R ++ [(.slice ao1 xw.length c1', xw)], _, by omega, by simp, nl_step (x := (xv, xw)) (by have := HR.out; rw [HM.out] at this ⊢; exact this) HX.out HH1.out HH2.out HT1.out (((Frm.Turn.refl _ w1).alloc _).trans (Frm.Turn.of_grown HG3.out) (fun k hk => .inl hk)) (by have := HO3.out; rw [HM.out] at this ⊢; exact this) (HL3.out.imp id (fun e => ⟨_, e, by simp⟩))⟩, ?_⟩
      all_goals simp [intOf]
      all_goals omega
    · obtain rfl : k = n := by omega
      have HE := Lib.hid (nl_end (R := R) (lv := .slice la R.length lc) (by have := HR.out; rw [HN.out, HM.out] at this; exact this))
      have HWH := Lib.hid (while_any r m .nilFunc (lyNext r) wr.drew (lyNext_fn r) (by omega) c0 f0)
      have hmk := hmf
      unfold lyNext at HWH
      go_wp2_with fail
      go_region_with ((go_at_call 88; (with_reducible refine (HWH.out).mono ?_); rintro e w5 ⟨rfl, rfl⟩))
      all_goals go_wp2_with fail
      all_goals go_ret
      all_goals obtain ⟨h1, h2, h3, h4, h5⟩ := HE.out
      all_goals rw [← HM.out] at h3 h4 h5
      all_goals exact ⟨r, _, R, rfl, h2, h3, h4, h5⟩
end Pac
end Go.Proofs.Ytkjcccjkfjebaaa
