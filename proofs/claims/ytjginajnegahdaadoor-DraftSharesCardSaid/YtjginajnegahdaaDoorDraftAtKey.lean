/- An operation upon a key that has none, or whose node isn't known. -/
import Derived.Test.YtjginajnegahdaaDoorDraftSet
set_option linter.unusedVariables false
set_option linter.unusedSimpArgs false
namespace Go.Proofs.YtjginajnegahdaaDoor
namespace Drf
open Go.RowKit Go.Maps

abbrev OpEnd (w : World) (b : Nat) (S : Sh) (N : Nat) (z : Dr × Rs × Int) : Ending → World → Prop := fun e w' => e = .returned (.tuple #[rv z.2.1, .int .u64 z.2.2]) ∧ ∃ S', Aft w b S z.1 (N + 4) S' w'
def opO (c k a b : Int) : Obj := .cells #[.int .i64 c, .int .i64 k, .int .i64 a, .int .i64 b] 44
theorem res_at (w : World) (o : Obj) : ((w.alloc o).alloc resO).heap[w.heap.size + 1]? = some (.cells #[.int .i64 0, .int .i64 0] 52 (0, 0)) := by
  have := heap_alloc_new (w.alloc o) resO
  rw [World.size_alloc] at this
  exact this
theorem op_cells {W : World} {g : Nat} {x0 x1 x2 x3 : Value} {t : TypeId} (h : W.heap[g]? = some (.cells #[x0, x1, x2, x3] t (0, 0))) : W.cell? ⟨g, 0, none⟩ = some x0 ∧ W.cell? ⟨g, 1, none⟩ = some x1 ∧ W.cell? ⟨g, 2, none⟩ = some x2 ∧ W.cell? ⟨g, 3, none⟩ = some x3 := by
  have hc := fun i => Frm.cell_row W g i _ _ _ h
  exact ⟨(hc 0).trans rfl, (hc 1).trans rfl, (hc 2).trans rfl, (hc 3).trans rfl⟩
set_option maxRecDepth 100000 in
set_option maxHeartbeats 4000000 in
theorem atKey_need {w : World} {b : Nat} {S : Sh} {D : Dr} {N : Nat} (h : DAt w b S D N) (tree : Nat) (ht : tree < 3) (c k a b2 : Int) (hk0 : 0 ≤ k) (hk1 : k ≤ 255) (hn : (D.find tree k).2 ≠ 0) :
    Calls Tryd.prog 43 #[.pointer (some ⟨b, 0, none⟩), .int .i64 tree, .agg #[.int .i64 c, .int .i64 k, .int .i64 a, .int .i64 b2]] w (OpEnd w b S N (D.atKey tree c k a b2)) := by
  have HR : Hid (D.atKey tree c k a b2 = (D, (0, 0), (D.find tree k).2)) := Lib.hid (by unfold Dr.atKey; rw [if_pos hn])
  have HF := Lib.hid (fun W (hT : Frm.Turn [] w W) => find_any (h.step hT) tree ht k hk0 hk1)
  obtain ⟨x, hx⟩ : ∃ x, x = (D.find tree k).1 := ⟨_, rfl⟩
  obtain ⟨y, hy⟩ : ∃ y, y = (D.find tree k).2 := ⟨_, rfl⟩
  rw [← hx, ← hy] at HF
  rw [← hy] at HR hn
  have t0 : (y != 0) = true := by simpa using hn
  have H := Lib.hid (fun W (hT : Frm.Turn [] w W) => (Aft.refl (h.mono (Nat.le_add_right N 4))).still hT)
  have HT0 := Lib.hid (((Frm.Turn.refl [] w).alloc (opO c k a b2)).alloc resO)
  have HB := Lib.hid (res_at w (opO c k a b2))
  unfold opO resO at HT0 HB
  clear h hx hy hn
  go_enter Tryd.func43, Tryd.ntmps43
  go_wp2_with (go_at_call 57; (with_reducible refine (HF.out _ HT0.out).mono ?_); rintro e w1 ⟨rfl, hT⟩; obtain ⟨⟨n0, n1⟩, m0, m1⟩ := blk2 (hT.keep HB.out (by simp)); have HB1 := Lib.hid (hT.keep HB.out (by simp)); have HT1 := Lib.hid (HT0.out.trans hT (by simp)); clear hT)
  have r := blk2 (told_blk HB1.out (.int .i64 0) (.int .i64 0))
  exact bodyPost_ret (v := .tuple #[rv (0, 0), .int .u64 y]) (by simp [results, Tryd.results43, go_sem, r.1.1, r.1.2]) rfl ⟨by rw [HR.out], S, by rw [HR.out]; exact H.out _ ((HT1.out.setCell (p := ⟨w.heap.size + 1, 0, none⟩) (.inr (by simp)) _).setCell (p := ⟨w.heap.size + 1, 1, none⟩) (.inr (by simp)) _)⟩
set_option maxRecDepth 100000 in
set_option maxHeartbeats 4000000 in
theorem atKey_none {w : World} {b : Nat} {S : Sh} {D : Dr} {N : Nat} (h : DAt w b S D N) (tree : Nat) (ht : tree < 3) (c k a b2 : Int) (hk0 : 0 ≤ k) (hk1 : k ≤ 255) (ha0 : 0 ≤ a) (ha1 : a ≤ 1023) (hn : D.find tree k = (0, 0)) (hren : Renews D N tree k) (hl : -1000000 ≤ D.len tree ∧ D.len tree ≤ 1000000) :
    Calls Tryd.prog 43 #[.pointer (some ⟨b, 0, none⟩), .int .i64 tree, .agg #[.int .i64 c, .int .i64 k, .int .i64 a, .int .i64 b2]] w (OpEnd w b S N (D.atKey tree c k a b2)) := by
  obtain ⟨x, hx⟩ : ∃ x, x = (if c = 5 ∨ c = 10 then a + 1 else 0) := ⟨_, rfl⟩
  have hd : does c a b2 0 = ((1, 0), x) := by unfold does; rw [if_pos rfl, hx]
  have HR : Hid (D.atKey tree c k a b2 = ((D.replace tree k 0 x).setLen tree (D.len tree + (cnt x - cnt 0)), (1, 0), 0)) := Lib.hid (by unfold Dr.atKey; rw [hn, if_neg (by simp), hd])
  have HF := Lib.hid (fun W (hT : Frm.Turn [] w W) => find_any (h.step hT) tree ht k hk0 hk1)
  simp only [hn] at HF
  have HD := Lib.hid (fun W => does_none c k a b2 ha0 ha1 W)
  rw [← hx] at HD
  have hx64 : W64 x := by rw [hx]; unfold W64; split <;> omega
  have hxe : x ≠ 0 → x = a + 1 := fun hh => by rw [hx] at hh ⊢; split <;> simp_all
  have HP := Lib.hid (fun W (hT : Frm.Turn [] w W) => replace_any (h.step hT) tree ht k hk0 hk1 0 x hx64 (fun hh => ⟨fun e => hh e.symm, hren⟩))
  have hcx : 0 ≤ cnt x ∧ cnt x ≤ 1 := by unfold cnt; split <;> omega
  have hc0 : cnt 0 = 0 := rfl
  obtain ⟨cx, hcxe⟩ : ∃ cx, cx = cnt x := ⟨_, rfl⟩
  obtain ⟨ln, hln⟩ : ∃ ln, ln = D.len tree := ⟨_, rfl⟩
  rw [hc0, ← hcxe, ← hln] at HR
  rw [← hcxe] at hcx
  rw [← hln] at hl
  have HCX : Hid (∀ W : World, Calls Tryd.prog 62 #[.int .u64 x] W fun e w' => e = .returned (.int .i64 cx) ∧ W = w') := Lib.hid fun W => by rw [hcxe]; exact count_any x W
  have HC0 : Hid (∀ W : World, Calls Tryd.prog 62 #[.int .u64 0] W fun e w' => e = .returned (.int .i64 0) ∧ W = w') := Lib.hid fun W => count_any 0 W
  have hlen : ∀ W S1 M, DAt W b S1 (D.replace tree k 0 x) M → W.cell? ⟨b, 7 + tree, none⟩ = some (.int .i64 ln) ∧ W.frozen? ⟨b, 7 + tree, none⟩ = false := fun W S1 M hh => by
    have := hh.own.2.1 tree (by omega)
    have e : (D.replace tree k 0 x).len tree = D.len tree := by
      unfold Dr.replace; split
      · rfl
      · simp only [Dr.len, write_lens.1]
    rw [e, ← hln] at this
    exact this
  have HLN := Lib.hid hlen
  have hbl := h.lt b (by simp [foot])
  have HT0 := Lib.hid (((Frm.Turn.refl [] w).alloc (opO c k a b2)).alloc resO)
  have HB := Lib.hid (res_at w (opO c k a b2))
  have HO := Lib.hid (((Frm.Turn.refl [] _).alloc resO).keep (heap_alloc_new w (opO c k a b2)) (by simp))
  unfold opO resO at HT0 HB HO
  have HFT := Lib.hid h.lt
  have t0 : (0 : Int) ≤ tree := by omega
  have t1 : (tree : Int) < 3 := by omega
  clear h hx hd hn hlen hren hxe hx64 hcxe hln
  go_enter Tryd.func43, Tryd.ntmps43
  go_upto_region 4 with (go_at_call 57; (with_reducible refine (HF.out _ HT0.out).mono ?_); rintro e w1 ⟨rfl, hT⟩; have HT1 := Lib.hid (HT0.out.trans hT (by simp)); have HB1 := Lib.hid (hT.keep HB.out (by simp)); have HO1 := Lib.hid (hT.keep HO.out (by simp)); clear hT)
  obtain ⟨o0, o1, o2, o3⟩ := op_cells HO1.out
  have hz1 := (Array.getElem?_eq_some_iff.1 HO1.out).1
  go_upto_region 5 with (go_at_call 61; (with_reducible refine (HD.out _).mono ?_); rintro e w2 ⟨rfl, hT⟩; have HT2 := Lib.hid (HT1.out.trans hT (by simp)); have HB2 := Lib.hid (hT.keep HB1.out (by simp)); have HO2 := Lib.hid (hT.keep HO1.out (by simp)); clear hT)
  obtain ⟨o0, o1, o2, o3⟩ := op_cells HO2.out
  have hz2 := (Array.getElem?_eq_some_iff.1 HO2.out).1
  have hrs := heap_alloc_new w2 (.cells #[.int .i64 1, .int .i64 0] 52)
  have T3 : Frm.Turn [] w2 (w2.alloc (.cells #[.int .i64 1, .int .i64 0] 52)) := (Frm.Turn.refl [] w2).alloc _
  have hO3 := T3.keep HO2.out (by simp)
  have hB3 := T3.keep HB2.out (by simp)
  have hT3 := HT2.out.trans T3 (by simp)
  obtain ⟨rb, hrb⟩ : ∃ rb, rb = w2.heap.size := ⟨_, rfl⟩
  rw [← hrb] at hrs ⊢
  have HRB : Hid (w.heap.size + 2 ≤ rb) := Lib.hid (by rw [hrb]; have := HT2.out.size; have := (Array.getElem?_eq_some_iff.1 HB2.out).1; omega)
  clear o0 o1 o2 o3 hz1 hz2 T3 hrb
  generalize w2.alloc _ = W3 at hrs hO3 hB3 hT3 ⊢
  obtain ⟨o0, o1, o2, o3⟩ := op_cells hO3
  have hz3 := (Array.getElem?_eq_some_iff.1 hO3).1
  have HRS := Lib.hid hrs
  have HB3 := Lib.hid hB3
  have HT3 := Lib.hid hT3
  have HLT : Hid (∀ q, q ∈ foot b S → q < w.heap.size) := HFT
  clear hrs hO3 hB3 hT3
  go_upto_region 6 with (go_at_call 58; (with_reducible refine (HP.out _ HT3.out).mono ?_); rintro e w4 ⟨rfl, S2, hA⟩; obtain ⟨cL, fL⟩ := HLN.out _ _ _ hA.at_; have HRS4 := Lib.hid (hA.turn.keep HRS.out (fun hm => by have := HLT.out _ hm; have := HRB.out; omega)); have HB4 := Lib.hid (hA.turn.keep HB3.out (fun hm => by have := HLT.out _ hm; omega)); have hb4 := hA.at_.lt b (by simp [foot]); have HA := Lib.hid hA; clear hA)
  have e1 : IntKind.i64.wrap cx = cx := by unfold IntKind.wrap; simp [IntKind.signed, IntKind.bits]; omega
  have e2 : IntKind.i64.wrap (ln + cx) = ln + cx := by unfold IntKind.wrap; simp [IntKind.signed, IntKind.bits]; omega
  go_region_with (first
      | (go_at_call 62; (with_reducible refine (HCX.out _).mono ?_); rintro e w1 ⟨rfl, rfl⟩)
      | (go_at_call 62; (with_reducible refine (HC0.out _).mono ?_); rintro e w1 ⟨rfl, rfl⟩))
  all_goals
    have T5 : Frm.Turn [b] w4 (w4.setCell ⟨b, 7 + tree, none⟩ (.int .i64 (ln + cx))).drew := ((Frm.Turn.refl [b] w4).setCell (.inl (by simp)) _).drew
    have hRS5 := T5.keep HRS4.out (by have := HRB.out; have := HLT.out b (by simp [foot]); simp; omega)
    have hB5 := T5.keep HB4.out (by have := HLT.out b (by simp [foot]); simp; omega)
    obtain ⟨⟨n0, n1⟩, -⟩ := blk2 hRS5
    obtain ⟨⟨p0, p1⟩, q0, q1⟩ := blk2 hB5
    have hfin : Aft w b S ((D.replace tree k 0 x).setLen tree (ln + (cx - 0))) (N + 4) S2 (((w4.setCell ⟨b, 7 + tree, none⟩ (.int .i64 (ln + cx))).drew.setCell ⟨w.heap.size + 1, 0, none⟩ (.int .i64 1)).setCell ⟨w.heap.size + 1, 1, none⟩ (.int .i64 0)) := by
      rw [Int.sub_zero]
      have hA5 := (Aft.ahead HT3.out HA.out).setLen (show tree ≤ 2 by omega) (ln + cx)
      refine Aft.side (g := w.heap.size + 1) (hA5.still (Frm.Turn.refl [] _).drew) (((Frm.Turn.refl _ _).setCell (.inl (by simp)) _).setCell (.inl (by simp)) _) (by omega) (fun hm => ?_)
      have hsz := (Array.getElem?_eq_some_iff.1 HB3.out).1
      rcases HA.out.new _ hm with e | e
      · have := HLT.out _ e; omega
      · omega
    have r := blk2 (told_blk hB5 (.int .i64 1) (.int .i64 0))
    clear T5 hRS5 hB5 cL fL
    generalize (w4.setCell ⟨b, 7 + tree, none⟩ (.int .i64 (ln + cx))).drew = W5 at n0 n1 p0 p1 q0 q1 r hfin ⊢
    have HFI := Lib.hid hfin
    clear hfin
    go_wp2
    exact bodyPost_ret (v := .tuple #[rv (1, 0), .int .u64 0]) (by simp [results, Tryd.results43, go_sem, r.1.1, r.1.2]) rfl ⟨by rw [HR.out], S2, by rw [HR.out]; exact HFI.out⟩
end Drf
end Go.Proofs.YtjginajnegahdaaDoor
