/- The machine that reads: made, stepped, asked. -/
import Derived.Test.YtkjcccjkfjebaaaPaceReads
set_option linter.unusedVariables false
set_option linter.unusedSimpArgs false
namespace Go.Proofs.Ytkjcccjkfjebaaa
namespace Pac
open Go.RowKit Go.Maps Arn

theorem enters_read : Enters Try.prog 89 := enters_of Try.func89 (by kernel_rfl) rfl
theorem rstep_more {w wd : World} {r b n : Nat} {M : Mem} {A : Ar} {blk i : Int} {L : List (Int × Int)} {W : List Int} {lv wv : Value} (h : Sin w b M A n wd) (hn : n ≤ 10000000) (hr : RdAt wd r b ((blk, i) :: L) W lv wv)
    (hd : ∀ k, k ∈ rdFoot r lv wv → k ∉ M.foot b ∧ w.heap.size ≤ k) (hW : W.length ≤ 60000) (hL : L.length ≤ 60000) (hb : W64 blk) (hi : (Lit.int .i64 i).wf = true) :
    Calls Try.prog 53 #[.pointer (some ⟨r, 0, none⟩)] wd fun e w' => e = .returned (.tuple #[]) ∧ RdAfter w r b M lv wv (A.read blk i).1 (n + 1) L (W ++ [(A.read blk i).2.1]) wd w' := by
  have h1 := call_fn #[.pointer (some ⟨r, 0, none⟩)] #[] wd (R := fun w' => RdAfter w r b M lv wv (A.read blk i).1 (n + 1) L (W ++ [(A.read blk i).2.1]) wd w') enters_read (read_any h hn hr hd hW hL hb hi)
  have hc : wd.cell? ⟨r, 0, none⟩ = some (rdNext r) := by
    rw [hr.body.cells.1]; rfl
  have h2 := gstep_any r (rdNext r) wd hc h1
  have H := Lib.hid h2
  clear h1 h2 hc h hr hd
  go_enter Try.func53, Try.ntmps53
  go_wp2_with (go_at_call 39; (with_reducible refine (H.out).mono ?_); rintro e w1 ⟨rfl, hR⟩)
  go_end0
  exact ⟨rfl, hR⟩
theorem rstep_none {w : World} {r b : Nat} {W : List Int} {lv wv : Value} (hr : RdAt w r b [] W lv wv) :
    Calls Try.prog 53 #[.pointer (some ⟨r, 0, none⟩)] w fun e w' => e = .returned (.tuple #[]) ∧ w' = w := by
  have hc : w.cell? ⟨r, 0, none⟩ = some .nilFunc := hr.body.cells.1
  have H := Lib.hid (gstep_any r .nilFunc w hc (call_none w))
  clear hc hr
  go_enter Try.func53, Try.ntmps53
  go_wp2_with (go_at_call 39; (with_reducible refine (H.out).mono ?_); rintro e w1 ⟨rfl, hR⟩)
  go_end0
  subst hR
  exact ⟨rfl, rfl⟩
theorem nextOf_fn (n : Nat) (v : Value) (h : IsFn v) : IsFn (nextOf n v) := by
  unfold nextOf; split
  · exact isFn_nil
  · exact h
theorem idle_next (n : Nat) (v : Value) (h : ∃ fn fi ca, v = .func fn fi ca) : idle (nextOf n v) = decide (n = 0) := by
  obtain ⟨fn, fi, ca, rfl⟩ := h
  unfold nextOf
  by_cases h : n = 0
  · rw [if_pos h]; simp [idle, h]
  · rw [if_neg h]; simp [idle, h]
theorem rdone_any {w : World} {r b : Nat} {L : List (Int × Int)} {W : List Int} {lv wv : Value} (hr : RdAt w r b L W lv wv) :
    Calls Try.prog 56 #[.pointer (some ⟨r, 0, none⟩)] w fun e w' => e = .returned (.bool (decide (L.length = 0))) ∧ w = w' := by
  have h1 := gdone_any r _ w (nextOf_fn L.length _ (rdNext_fn r)) hr.body.cells.1
  rw [idle_next _ (rdNext r) ⟨_, _, _, rfl⟩] at h1
  have H := Lib.hid h1
  clear h1 hr
  generalize decide (L.length = 0) = z at H ⊢
  go_enter Try.func56, Try.ntmps56
  go_wp2_with (go_at_call 40; (with_reducible refine (H.out).mono ?_); rintro e w1 ⟨rfl, rfl⟩)
  go_ret
  exact ⟨rfl, rfl⟩
theorem words_of_row {w : World} {v : Value} {l : List Int} (h : w.ownsRow 0 29 1 v l.length (u64s l)) : WordsAt w v l := by
  rcases h.2 with ⟨rfl, e⟩ | ⟨g, c, cur, rfl, _⟩
  · exact .inl ⟨rfl, List.length_eq_zero_iff.1 e⟩
  · exact .own h
theorem rwords_any {w : World} {r b : Nat} {L : List (Int × Int)} {W : List Int} {lv wv : Value} (hr : RdAt w r b L W lv wv) (hW : W.length ≤ 65536) :
    Calls Try.prog 55 #[.pointer (some ⟨r, 0, none⟩)] w (UCloneOf w W) := by
  obtain ⟨_, _, _, c3⟩ := hr.body.cells
  have H := Lib.hid (uclone_any wv W w (words_of_row hr.words) hW)
  clear hr
  go_enter Try.func55, Try.ntmps55
  go_wp2_with (go_at_call 60; (with_reducible refine (H.out).mono ?_); rintro e w1 ⟨ao, c, rfl, h⟩; have H1 := Lib.hid h; clear h)
  go_ret
  exact ⟨ao, c, rfl, H1.out⟩
set_option maxHeartbeats 1000000 in
theorem newReads_any (b : Nat) (v : Value) (L : List (Int × Int)) (w : World) (hv : AddrsAt w v L) (hL : L.length ≤ 60000) :
    Calls Try.prog 44 #[.pointer (some ⟨b, 0, none⟩), v] w fun e w' => ∃ r lv, e = .returned (.pointer (some ⟨r, 0, none⟩)) ∧ RdAt w' r b L [] lv (.slice none 0 0) ∧ (∀ k, k ∈ rdFoot r lv (.slice none 0 0) → w.heap.size ≤ k ∧ k < w'.heap.size) ∧ Frm.Turn [] w w' := by
  have HCL := Lib.hid (aclone_any v L w hv (by omega))
  clear hv
  obtain ⟨n, HN⟩ : ∃ n, Hid (n = L.length) := ⟨_, Lib.hid rfl⟩
  go_enter Try.func44, Try.ntmps44
  go_upto_region 2 with (go_at_call 87; (with_reducible refine (HCL.out).mono ?_); rintro e w1 ⟨ao, c, rfl, h1, h2, h3⟩; have H1 := Lib.hid h1; have H2 := Lib.hid h2; have H3 := Lib.hid h3; clear h1 h2 h3)
  rw [← HN.out] at hL ⊢
  have hb := World.alloc_heap_new w1 (.cells #[.nilFunc, .pointer (some ⟨b, 0, none⟩), .slice ao n c, .slice none 0 0] 136)
  have HT := Lib.hid (H3.out.alloc (.cells #[.nilFunc, .pointer (some ⟨b, 0, none⟩), .slice ao n c, .slice none 0 0] 136))
  have HT1 := Lib.hid ((Frm.Turn.refl [] w1).alloc (.cells #[.nilFunc, .pointer (some ⟨b, 0, none⟩), .slice ao n c, .slice none 0 0] 136))
  have HS : Hid ((w1.alloc (.cells #[.nilFunc, .pointer (some ⟨b, 0, none⟩), .slice ao n c, .slice none 0 0] 136)).heap.size = w1.heap.size + 1) := Lib.hid (by simp)
  generalize w1.alloc (.cells #[.nilFunc, .pointer (some ⟨b, 0, none⟩), .slice ao n c, .slice none 0 0] 136) = w2 at hb HT HT1 HS ⊢
  obtain ⟨r, HRr⟩ : ∃ r, Hid (r = w1.heap.size) := ⟨_, Lib.hid rfl⟩
  rw [← HRr.out] at hb ⊢
  have HB : Hid (RdBody w2 r b .nilFunc (.slice ao n c) (.slice none 0 0)) := Lib.hid hb
  clear hb
  obtain ⟨c0, c1, c2, c3⟩ := HB.out.cells
  have HWH := Lib.hid (while_any r n .nilFunc (rdNext r) w2.drew (rdNext_fn r) (by omega) c0 (HB.out.thaw 0))
  have hmk := hmf
  unfold rdNext at HWH
  go_region_with ((go_at_call 88; (with_reducible refine (HWH.out).mono ?_); rintro e w5 ⟨rfl, rfl⟩))
  all_goals go_wp2_with fail
  all_goals go_ret
  all_goals
    have hw1 := H3.out.size
    have hrw : r < w2.heap.size := by rw [HS.out, HRr.out]; omega
    have T2 : Frm.Turn [r] w2 ((w2.setCell ⟨r, 0, none⟩ (nextOf n (.func (.func 89) #[.pointer (some ⟨r, 0, none⟩)] #[]))).drew) := ((Frm.Turn.refl _ w2).setCell (p := ⟨r, 0, none⟩) (.inl (by simp)) _).drew
    refine ⟨r, .slice ao n c, rfl, ⟨?_, ?_, World.ownsRow_nil _ _ _ _, ?_, by simp [Value.ownBlock], by simp [Value.ownBlock]⟩, ?_, ?_⟩
    · rw [← HN.out]
      exact RdBody.turn (HB.out.set.1 _) (Frm.Turn.refl [] _).drew (by simp)
    · have h1 := H1.out
      rw [← HN.out] at h1
      refine (h1.turn HT1.out (by simp)).turn T2 (fun k hk hk' => ?_)
      simp at hk'; subst hk'
      have := (H2.out k (by rw [← HN.out]; exact hk)).2
      rw [HRr.out] at this; omega
    · intro e
      have := (H2.out r (by rw [← HN.out]; exact e)).2
      rw [HRr.out] at this; omega
    · intro k hk
      have hsz := T2.size
      rcases mem_foot.1 hk with rfl | hk | hk
      · refine ⟨by rw [HRr.out]; exact hw1, by omega⟩
      · have := H2.out k (by rw [← HN.out]; exact hk)
        have := HT1.out.size
        exact ⟨by omega, by omega⟩
      · simp [Value.ownBlock] at hk
    · exact HT.out.trans T2 (fun k hk => by simp at hk; subst hk; right; rw [HRr.out]; exact hw1)
end Pac
end Go.Proofs.Ytkjcccjkfjebaaa
