/- The queue's operations; the floor. -/
import Derived.Test.YtjginajnegahdaaDoorDraftAtKey
set_option linter.unusedVariables false
set_option linter.unusedSimpArgs false
namespace Go.Proofs.YtjginajnegahdaaDoor
namespace Drf
open Go.RowKit Go.Maps

theorem find1_any {w : World} {b : Nat} {S : Sh} {D : Dr} {N : Nat} (h : DAt w b S D N) (key : Int) (hk0 : 0 ≤ key) (hk1 : key ≤ 255) :
    Calls Tryd.prog 57 #[.pointer (some ⟨b, 0, none⟩), .int .i64 1, .int .i64 key] w fun e w' => e = .returned (.tuple #[.int .u64 (D.find 1 key).1, .int .u64 (D.find 1 key).2]) ∧ Frm.Turn [] w w' := find_any h 1 (by omega) key hk0 hk1
theorem find0_any {w : World} {b : Nat} {S : Sh} {D : Dr} {N : Nat} (h : DAt w b S D N) (key : Int) (hk0 : 0 ≤ key) (hk1 : key ≤ 255) :
    Calls Tryd.prog 57 #[.pointer (some ⟨b, 0, none⟩), .int .i64 0, .int .i64 key] w fun e w' => e = .returned (.tuple #[.int .u64 (D.find 0 key).1, .int .u64 (D.find 0 key).2]) ∧ Frm.Turn [] w w' := find_any h 0 (by omega) key hk0 hk1
theorem replace1_any {w : World} {b : Nat} {S : Sh} {D : Dr} {N : Nat} (h : DAt w b S D N) (key : Int) (hk0 : 0 ≤ key) (hk1 : key ≤ 255) (was now : Int) (hx : W64 now) (hw : was ≠ now → now ≠ 0 ∧ Renews D N 1 key) :
    Calls Tryd.prog 58 #[.pointer (some ⟨b, 0, none⟩), .int .i64 1, .int .i64 key, .int .u64 was, .int .u64 now] w fun e w' => e = .returned (.tuple #[]) ∧ ∃ S', Aft w b S (D.replace 1 key was now) (N + 4) S' w' := replace_any h 1 (by omega) key hk0 hk1 was now hx hw
theorem i64_is {z : Int} (h : -9223372036854775808 ≤ z ∧ z ≤ 9223372036854775807) : IntKind.i64.wrap z = z := by unfold IntKind.wrap; simp [IntKind.signed, IntKind.bits]; omega
set_option maxRecDepth 100000 in
set_option maxHeartbeats 4000000 in
theorem enqueue_full {w : World} {b : Nat} {S : Sh} {D : Dr} {N : Nat} (h : DAt w b S D N) (a : Int) (hf : D.len 1 = 256) :
    Calls Tryd.prog 39 #[.pointer (some ⟨b, 0, none⟩), .int .i64 a] w (OpEnd w b S N (D.enqueue a)) := by
  have HR : Hid (D.enqueue a = (D, (2, 0), 0)) := Lib.hid (by unfold Dr.enqueue; rw [if_pos hf])
  have c0 := (h.own.2.1 1 (by omega)).1
  rw [hf] at c0
  have hbl := h.lt b (by simp [foot])
  have H := Lib.hid (fun W (hT : Frm.Turn [] w W) => (Aft.refl (h.mono (Nat.le_add_right N 4))).still hT)
  have HT0 := Lib.hid (fun o => (Frm.Turn.refl [] w).alloc o)
  clear h hf
  go_enter Tryd.func39, Tryd.ntmps39
  go_wp2
  exact bodyPost_ret (v := .tuple #[rv (2, 0), .int .u64 0]) (by simp [results, Tryd.results39, go_sem, rv]) rfl ⟨by rw [HR.out], S, by rw [HR.out]; exact H.out _ (HT0.out _)⟩
set_option maxRecDepth 100000 in
set_option maxHeartbeats 4000000 in
theorem dequeue_empty {w : World} {b : Nat} {S : Sh} {D : Dr} {N : Nat} (h : DAt w b S D N) (hf : D.len 1 = 0) :
    Calls Tryd.prog 40 #[.pointer (some ⟨b, 0, none⟩)] w (OpEnd w b S N D.dequeue) := by
  have HR : Hid (D.dequeue = (D, (1, 0), 0)) := Lib.hid (by unfold Dr.dequeue; rw [if_pos hf])
  have c0 := (h.own.2.1 1 (by omega)).1
  rw [hf] at c0
  have hbl := h.lt b (by simp [foot])
  have H := Lib.hid (fun W (hT : Frm.Turn [] w W) => (Aft.refl (h.mono (Nat.le_add_right N 4))).still hT)
  have HT0 := Lib.hid ((Frm.Turn.refl [] w).alloc resO)
  have HB := Lib.hid (heap_alloc_new w resO)
  unfold resO at HT0 HB
  clear h hf
  go_enter Tryd.func40, Tryd.ntmps40
  go_wp2_with (go_at_call 38; (with_reducible refine (none_any _).mono ?_); rintro e w1 ⟨rfl, hT⟩; obtain ⟨⟨n0, n1⟩, m0, m1⟩ := blk2 (hT.keep HB.out (by simp)); have HB1 := Lib.hid (hT.keep HB.out (by simp)); have HT1 := Lib.hid (HT0.out.trans hT (by simp)); clear hT)
  have r := blk2 (told_blk HB1.out (.int .i64 1) (.int .i64 0))
  exact bodyPost_ret (v := .tuple #[rv (1, 0), .int .u64 0]) (by simp [results, Tryd.results40, go_sem, r.1.1, r.1.2]) rfl ⟨by rw [HR.out], S, by rw [HR.out]; exact H.out _ ((HT1.out.setCell (p := ⟨w.heap.size, 0, none⟩) (.inr (Nat.le_refl _)) _).setCell (p := ⟨w.heap.size, 1, none⟩) (.inr (Nat.le_refl _)) _)⟩
set_option maxRecDepth 100000 in
set_option maxHeartbeats 4000000 in
theorem dequeue_need {w : World} {b : Nat} {S : Sh} {D : Dr} {N : Nat} (h : DAt w b S D N) (hf : D.len 1 ≠ 0) (h0 : 0 ≤ D.front) (h1 : D.front ≤ 255) (hn : (D.find 1 D.front).2 ≠ 0) :
    Calls Tryd.prog 40 #[.pointer (some ⟨b, 0, none⟩)] w (OpEnd w b S N D.dequeue) := by
  have HR : Hid (D.dequeue = (D, (0, 0), (D.find 1 D.front).2)) := Lib.hid (by unfold Dr.dequeue; rw [if_neg hf, if_pos hn])
  have HF := Lib.hid (fun W (hT : Frm.Turn [] w W) => find1_any (h.step hT) D.front h0 h1)
  have c0 := (h.own.2.1 1 (by omega)).1
  have c1 := h.own.2.2.1.1
  obtain ⟨ln, hln⟩ : ∃ ln, ln = D.len 1 := ⟨_, rfl⟩
  obtain ⟨fr, hfr⟩ : ∃ fr, fr = D.front := ⟨_, rfl⟩
  obtain ⟨x, hx⟩ : ∃ x, x = (D.find 1 D.front).1 := ⟨_, rfl⟩
  obtain ⟨y, hy⟩ : ∃ y, y = (D.find 1 D.front).2 := ⟨_, rfl⟩
  rw [← hx, ← hy, ← hfr] at HF
  rw [← hy] at HR hn
  rw [← hln] at c0 hf
  rw [← hfr] at c1
  have t0 : (y != 0) = true := by simpa using hn
  have t1 : (ln == 0) = false := by simpa using hf
  have hbl := h.lt b (by simp [foot])
  have H := Lib.hid (fun W (hT : Frm.Turn [] w W) => (Aft.refl (h.mono (Nat.le_add_right N 4))).still hT)
  have HT0 := Lib.hid ((Frm.Turn.refl [] w).alloc resO)
  have HB := Lib.hid (heap_alloc_new w resO)
  unfold resO at HT0 HB
  clear h hf hln hfr hx hy hn h0 h1
  go_enter Tryd.func40, Tryd.ntmps40
  go_wp2_with (go_at_call 57; (with_reducible refine (HF.out _ HT0.out).mono ?_); rintro e w1 ⟨rfl, hT⟩; obtain ⟨⟨n0, n1⟩, m0, m1⟩ := blk2 (hT.keep HB.out (by simp)); have HB1 := Lib.hid (hT.keep HB.out (by simp)); have HT1 := Lib.hid (HT0.out.trans hT (by simp)); clear hT)
  have r := blk2 (told_blk HB1.out (.int .i64 0) (.int .i64 0))
  exact bodyPost_ret (v := .tuple #[rv (0, 0), .int .u64 y]) (by simp [results, Tryd.results40, go_sem, r.1.1, r.1.2]) rfl ⟨by rw [HR.out], S, by rw [HR.out]; exact H.out _ ((HT1.out.setCell (p := ⟨w.heap.size, 0, none⟩) (.inr (Nat.le_refl _)) _).setCell (p := ⟨w.heap.size, 1, none⟩) (.inr (Nat.le_refl _)) _)⟩
set_option maxRecDepth 100000 in
set_option maxHeartbeats 4000000 in
theorem enqueue_need {w : World} {b : Nat} {S : Sh} {D : Dr} {N : Nat} (h : DAt w b S D N) (a : Int) (hf : D.len 1 ≠ 256) (h0 : 0 ≤ D.front) (h1 : D.front ≤ 255) (h2 : 0 ≤ D.len 1) (h3 : D.len 1 ≤ 256) (hn : (D.find 1 ((D.front + D.len 1) % 256)).2 ≠ 0) :
    Calls Tryd.prog 39 #[.pointer (some ⟨b, 0, none⟩), .int .i64 a] w (OpEnd w b S N (D.enqueue a)) := by
  have HR : Hid (D.enqueue a = (D, (0, 0), (D.find 1 ((D.front + D.len 1) % 256)).2)) := Lib.hid (by unfold Dr.enqueue; rw [if_neg hf, if_pos hn])
  have HF := Lib.hid (fun W (hT : Frm.Turn [] w W) => find1_any (h.step hT) ((D.front + D.len 1) % 256) (by omega) (by omega))
  have c0 := (h.own.2.1 1 (by omega)).1
  have c1 := h.own.2.2.1.1
  obtain ⟨ln, hln⟩ : ∃ ln, ln = D.len 1 := ⟨_, rfl⟩
  obtain ⟨fr, hfr⟩ : ∃ fr, fr = D.front := ⟨_, rfl⟩
  obtain ⟨key, hkey⟩ : ∃ key, key = (D.front + D.len 1) % 256 := ⟨_, rfl⟩
  obtain ⟨x, hx⟩ : ∃ x, x = (D.find 1 ((D.front + D.len 1) % 256)).1 := ⟨_, rfl⟩
  obtain ⟨y, hy⟩ : ∃ y, y = (D.find 1 ((D.front + D.len 1) % 256)).2 := ⟨_, rfl⟩
  rw [← hx, ← hy, ← hkey] at HF
  rw [← hy] at HR hn
  rw [← hln] at c0 hf h2 h3
  rw [← hfr] at c1 h0 h1
  have t0 : (y != 0) = true := by simpa using hn
  have t1 : (ln == 256) = false := by simpa using hf
  have e1 : (fr + ln).tmod 256 = key := by rw [Int.tmod_eq_emod_of_nonneg (by omega), hkey, ← hfr, ← hln]
  have hbl := h.lt b (by simp [foot])
  have H := Lib.hid (fun W (hT : Frm.Turn [] w W) => (Aft.refl (h.mono (Nat.le_add_right N 4))).still hT)
  have HT0 := Lib.hid (fun n => ((Frm.Turn.refl [] w).alloc resO).drewN n)
  have HB := Lib.hid (fun n => show ((w.alloc resO).drewN n).heap[w.heap.size]? = _ from heap_alloc_new w resO)
  unfold resO at HT0 HB
  clear h hln hfr hx hy hn hkey
  go_enter Tryd.func39, Tryd.ntmps39
  go_wp2
  go_quiet (fail)
  go_wp2_with (go_at_call 57; (with_reducible refine (HF.out _ (HT0.out _)).mono ?_); rintro e w1 ⟨rfl, hT⟩; obtain ⟨⟨n0, n1⟩, m0, m1⟩ := blk2 (hT.keep (HB.out _) (by simp)); have HB1 := Lib.hid (hT.keep (HB.out _) (by simp)); have HT1 := Lib.hid ((HT0.out _).trans hT (by simp)); clear hT)
  have r := blk2 (told_blk HB1.out (.int .i64 0) (.int .i64 0))
  exact bodyPost_ret (v := .tuple #[rv (0, 0), .int .u64 y]) (by simp [results, Tryd.results39, go_sem, r.1.1, r.1.2]) rfl ⟨by rw [HR.out], S, by rw [HR.out]; exact H.out _ ((HT1.out.setCell (p := ⟨w.heap.size, 0, none⟩) (.inr (Nat.le_refl _)) _).setCell (p := ⟨w.heap.size, 1, none⟩) (.inr (Nat.le_refl _)) _)⟩
set_option maxRecDepth 100000 in
set_option maxHeartbeats 4000000 in
theorem enqueue_new {w : World} {b : Nat} {S : Sh} {D : Dr} {N : Nat} (h : DAt w b S D N) (a : Int) (ha0 : 0 ≤ a) (ha1 : a ≤ 1023) (hf : D.len 1 ≠ 256) (h0 : 0 ≤ D.front) (h1 : D.front ≤ 255) (h2 : 0 ≤ D.len 1) (h3 : D.len 1 ≤ 256) (hn : (D.find 1 ((D.front + D.len 1) % 256)).2 = 0) (hren : Renews D N 1 ((D.front + D.len 1) % 256)) :
    Calls Tryd.prog 39 #[.pointer (some ⟨b, 0, none⟩), .int .i64 a] w (OpEnd w b S N (D.enqueue a)) := by
  have HR : Hid (D.enqueue a = ((D.replace 1 ((D.front + D.len 1) % 256) (D.find 1 ((D.front + D.len 1) % 256)).1 (a + 1)).setLen 1 (D.len 1 + 1), (0, D.len 1 + 1), 0)) := Lib.hid (by unfold Dr.enqueue; rw [if_neg hf, if_neg (by simpa using hn)])
  have HF := Lib.hid (fun W (hT : Frm.Turn [] w W) => find1_any (h.step hT) ((D.front + D.len 1) % 256) (by omega) (by omega))
  have HP := Lib.hid (fun W (hT : Frm.Turn [] w W) => replace1_any (h.step hT) ((D.front + D.len 1) % 256) (by omega) (by omega) (D.find 1 ((D.front + D.len 1) % 256)).1 (a + 1) ⟨by omega, by omega⟩ (fun _ => ⟨by omega, hren⟩))
  have hlen : ∀ W S1 M, DAt W b S1 (D.replace 1 ((D.front + D.len 1) % 256) (D.find 1 ((D.front + D.len 1) % 256)).1 (a + 1)) M → W.cell? ⟨b, 7 + 1, none⟩ = some (.int .i64 (D.len 1)) ∧ W.frozen? ⟨b, 7 + 1, none⟩ = false := fun W S1 M hh => by
    have := hh.own.2.1 1 (by omega)
    have e : (D.replace 1 ((D.front + D.len 1) % 256) (D.find 1 ((D.front + D.len 1) % 256)).1 (a + 1)).len 1 = D.len 1 := by
      unfold Dr.replace; split
      · rfl
      · simp only [Dr.len, write_lens.1]
    rw [e] at this
    exact this
  have c0 := (h.own.2.1 1 (by omega)).1
  have c1 := h.own.2.2.1.1
  obtain ⟨ln, hln⟩ : ∃ ln, ln = D.len 1 := ⟨_, rfl⟩
  obtain ⟨fr, hfr⟩ : ∃ fr, fr = D.front := ⟨_, rfl⟩
  obtain ⟨key, hkey⟩ : ∃ key, key = (D.front + D.len 1) % 256 := ⟨_, rfl⟩
  obtain ⟨x, hx⟩ : ∃ x, x = (D.find 1 ((D.front + D.len 1) % 256)).1 := ⟨_, rfl⟩
  obtain ⟨D', hD'⟩ : ∃ D', D' = D.replace 1 key x (a + 1) := ⟨_, rfl⟩
  rw [← hx, hn, ← hkey] at HF
  rw [← hx, ← hkey, ← hD', ← hln] at hlen
  rw [← hx, ← hkey, ← hD'] at HP
  rw [← hx, ← hkey, ← hD', ← hln] at HR
  rw [← hln] at c0 hf h2 h3
  rw [← hfr] at c1 h0 h1
  have t1 : (ln == 256) = false := by simpa using hf
  have e1 : (fr + ln).tmod 256 = key := by rw [Int.tmod_eq_emod_of_nonneg (by omega), hkey, ← hfr, ← hln]
  have hbl := h.lt b (by simp [foot])
  have HT0 := Lib.hid (fun n => ((Frm.Turn.refl [] w).alloc resO).drewN n)
  have HB := Lib.hid (fun n => show ((w.alloc resO).drewN n).heap[w.heap.size]? = _ from heap_alloc_new w resO)
  unfold resO at HT0 HB
  have HLN := Lib.hid hlen
  have HLT := Lib.hid h.lt
  have HBS : Hid (b ∈ foot b S) := Lib.hid (by simp [foot])
  clear h hln hfr hx hn hkey hD' hlen hren
  go_enter Tryd.func39, Tryd.ntmps39
  go_wp2
  go_quiet (fail)
  go_upto_region 8 with (first
    | (go_at_call 57; (with_reducible refine (HF.out _ (HT0.out _)).mono ?_); rintro e w1 ⟨rfl, hT⟩; have HB1 := Lib.hid (hT.keep (HB.out _) (by simp)); have HT1 := Lib.hid ((HT0.out _).trans hT (by simp)); clear hT)
    | (go_at_call 59; (with_reducible refine (wordOf_any a ha0 ha1 _).mono ?_); rintro e w1 ⟨rfl, rfl⟩)
    | (go_at_call 58; (with_reducible refine (HP.out _ HT1.out).mono ?_); rintro e w4 ⟨rfl, S2, hA⟩; obtain ⟨cL, fL⟩ := HLN.out _ _ _ hA.at_; have HB4 := Lib.hid (hA.turn.keep HB1.out (fun hm => by have := HLT.out _ hm; omega)); have hb4 := hA.at_.lt b (by simp [foot]); have HA := Lib.hid hA; clear hA))
  have hsz := (Array.getElem?_eq_some_iff.1 HB1.out).1
  have hA5 := (Aft.ahead HT1.out HA.out).setLen (show 1 ≤ 2 by omega) (ln + 1)
  have T5 : Frm.Turn [b] w4 (w4.setCell ⟨b, 7 + 1, none⟩ (.int .i64 (ln + 1))) := (Frm.Turn.refl [b] w4).setCell (.inl (by simp)) _
  have hB5 := T5.keep HB4.out (by have := HLT.out b HBS.out; simp; omega)
  have hnf : w.heap.size ∉ foot b S2 := fun hm => by
    rcases HA.out.new _ hm with e | e
    · have := HLT.out _ e; omega
    · omega
  have c5 := hA5.at_.own.2.1 1 (by omega)
  have hb5 := hA5.at_.lt b (by simp [foot])
  have hl5 : (D'.setLen 1 (ln + 1)).len 1 = ln + 1 := by
    obtain ⟨y0, y1, y2, e2⟩ := list3 HA.out.at_.wf.lens
    simp [Dr.len, Dr.setLen, e2]
  rw [hl5] at c5
  obtain ⟨c5, f5⟩ := c5
  go_region
  all_goals
    have hA6 := hA5.still (Frm.Turn.refl [] _).drew
    generalize (w4.setCell ⟨b, 8, none⟩ (.int .i64 (ln + 1))) = W5 at hA6 hB5 c5 f5 hb5 ⊢
    have hB6 : W5.drew.heap[w.heap.size]? = _ := hB5
    have c6 : W5.drew.cell? ⟨b, 8, none⟩ = some (.int .i64 (ln + 1)) := c5
    have hb6 : b < W5.drew.heap.size := hb5
    have HA6 := Lib.hid hA6
    have HB6 := Lib.hid hB6
    have HNF := Lib.hid hnf
    clear hA6 hB6 hB5 hA5 T5 hnf hl5 c5 f5 hb5 cL fL hb4
    generalize W5.drew = W6 at HA6 HB6 c6 hb6 ⊢
    go_wp2_with (go_at_call 41; (with_reducible refine (done_any _ _).mono ?_); rintro e w6 ⟨rfl, hT⟩; obtain ⟨⟨n0, n1⟩, m0, m1⟩ := blk2 (hT.keep HB6.out (by simp)); have HB7 := Lib.hid (hT.keep HB6.out (by simp)); have HT7 := Lib.hid hT; clear hT)
    have r := blk2 (told_blk HB7.out (.int .i64 0) (.int .i64 (ln + 1)))
    exact bodyPost_ret (v := .tuple #[rv (0, ln + 1), .int .u64 0]) (by simp [results, Tryd.results39, go_sem, r.1.1, r.1.2]) rfl ⟨by rw [HR.out], S2, by rw [HR.out]; exact Aft.side (g := w.heap.size) (HA6.out.still HT7.out) (((Frm.Turn.refl _ _).setCell (.inl (by simp)) _).setCell (.inl (by simp)) _) (Nat.le_refl _) HNF.out⟩
end Drf
end Go.Proofs.YtjginajnegahdaaDoor
