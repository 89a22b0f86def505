/- Apply, upon a draft of which no node is known. -/
import Derived.Test.YtjginajnegahdaaDoorDraftFlat
set_option linter.unusedVariables false
set_option linter.unusedSimpArgs false
namespace Go.Proofs.YtjginajnegahdaaDoor
namespace Drf
open Go.RowKit Go.Maps

theorem flat_atKey0 {w : World} {b : Nat} {S : Sh} {D : Dr} {N : Nat} (h : DAt w b S D N) (hf : Flat D) (hN : N ≤ 90000) (c k a b2 : Int) (hk0 : 0 ≤ k) (hk1 : k ≤ 255) (ha0 : 0 ≤ a) (ha1 : a ≤ 1023) :
    Calls Tryd.prog 43 #[.pointer (some ⟨b, 0, none⟩), .int .i64 0, .agg #[.int .i64 c, .int .i64 k, .int .i64 a, .int .i64 b2]] w (OpEnd w b S N (D.atKey 0 c k a b2)) := flat_atKey h hf hN 0 (by omega) c k a b2 hk0 hk1 ha0 ha1
theorem flat_atKey2 {w : World} {b : Nat} {S : Sh} {D : Dr} {N : Nat} (h : DAt w b S D N) (hf : Flat D) (hN : N ≤ 90000) (c k a b2 : Int) (hk0 : 0 ≤ k) (hk1 : k ≤ 255) (ha0 : 0 ≤ a) (ha1 : a ≤ 1023) :
    Calls Tryd.prog 43 #[.pointer (some ⟨b, 0, none⟩), .int .i64 2, .agg #[.int .i64 c, .int .i64 k, .int .i64 a, .int .i64 b2]] w (OpEnd w b S N (D.atKey 2 c k a b2)) := flat_atKey h hf hN 2 (by omega) c k a b2 hk0 hk1 ha0 ha1
set_option maxRecDepth 100000 in
set_option maxHeartbeats 4000000 in
theorem apply_enqueue {w : World} {b : Nat} {S : Sh} {D : Dr} {N : Nat} (h : DAt w b S D N) (hK : Ops.Kn w) (k a b2 : Int) (hf : Flat D) (hN : N ≤ 90000) (ha0 : 0 ≤ a) (ha1 : a ≤ 1023) (hr : Ops.opT.rightB 1 k a b2 = true) :
    Calls Tryd.prog 14 #[.pointer (some ⟨b, 0, none⟩), .agg #[.int .i64 1, .int .i64 k, .int .i64 a, .int .i64 b2]] w (OpEnd w b S N (D.enqueue a)) := by
  have HR := Lib.hid (fun W (hT : Frm.Turn [] w W) => Ops.right_any 1 k a b2 W (hK.turn hT))
  rw [hr] at HR
  have HT0 := Lib.hid (((Frm.Turn.refl [] w).alloc (opO 1 k a b2)).alloc resO)
  have HB := Lib.hid (res_at w (opO 1 k a b2))
  have HO := Lib.hid (((Frm.Turn.refl [] _).alloc resO).keep (heap_alloc_new w (opO 1 k a b2)) (by simp))
  have HLT := Lib.hid h.lt
  have hbl := h.lt b (by simp [foot])
  have H := Lib.hid (fun W (hT : Frm.Turn [] w W) => h.step hT)
  obtain ⟨D', x, y, z, hx⟩ : ∃ D' x y z, (D.enqueue a) = (D', (x, y), z) := ⟨_, _, _, _, rfl⟩
  have HC := Lib.hid (fun W (hT : Frm.Turn [] w W) => flat_enqueue (h.step hT) hf hN a ha0 ha1)
  rw [hx] at HC
  have HX := Lib.hid hx
  clear hx
  unfold opO resO at HT0 HB HO
  clear h hK hr
  go_enter Tryd.func14, Tryd.ntmps14
  go_upto_region 3 with (go_at_call 37; (with_reducible refine (HR.out _ HT0.out).mono ?_); rintro e w1 ⟨rfl, hT⟩; have HT1 := Lib.hid (HT0.out.trans hT (by simp)); have HB1 := Lib.hid (hT.keep HB.out (by simp)); have HO1 := Lib.hid (hT.keep HO.out (by simp)); have HZ1 := Lib.hid hT.size; clear hT)
  obtain ⟨o0, o1, o2, o3⟩ := op_cells HO1.out
  have hz1 := (Array.getElem?_eq_some_iff.1 HO1.out).1
  go_wp2_with (go_at_call 39; (with_reducible refine (HC.out _ HT1.out).mono ?_); rintro e w4 ⟨rfl, S2, hA⟩; obtain ⟨⟨n0, n1⟩, m0, m1⟩ := blk2 (hA.turn.keep HB1.out (fun hm => by have := HLT.out _ hm; omega)); have HB4 := Lib.hid (hA.turn.keep HB1.out (fun hm => by have := HLT.out _ hm; omega)); have HA := Lib.hid hA; clear hA)
  have hs1 : w.heap.size + 2 ≤ w1.heap.size := by have := HZ1.out; simpa using this
  have r := blk2 (told_blk HB4.out (.int .i64 x) (.int .i64 y))
  exact bodyPost_ret (v := .tuple #[rv (x, y), .int .u64 z]) (by simp [results, Tryd.results14, go_sem, r.1.1, r.1.2]) rfl ⟨by rw [HX.out], S2, by rw [HX.out]; exact app_fin HT1.out hs1 HLT.out HA.out _ _⟩
set_option maxRecDepth 100000 in
set_option maxHeartbeats 4000000 in
theorem apply_dequeue {w : World} {b : Nat} {S : Sh} {D : Dr} {N : Nat} (h : DAt w b S D N) (hK : Ops.Kn w) (k a b2 : Int) (hf : Flat D) (hN : N ≤ 90000) (hd : D.len 1 = 0 ∨ D.at (none, 1) ≠ ln0) (hr : Ops.opT.rightB 2 k a b2 = true) :
    Calls Tryd.prog 14 #[.pointer (some ⟨b, 0, none⟩), .agg #[.int .i64 2, .int .i64 k, .int .i64 a, .int .i64 b2]] w (OpEnd w b S N D.dequeue) := by
  have HR := Lib.hid (fun W (hT : Frm.Turn [] w W) => Ops.right_any 2 k a b2 W (hK.turn hT))
  rw [hr] at HR
  have HT0 := Lib.hid (((Frm.Turn.refl [] w).alloc (opO 2 k a b2)).alloc resO)
  have HB := Lib.hid (res_at w (opO 2 k a b2))
  have HO := Lib.hid (((Frm.Turn.refl [] _).alloc resO).keep (heap_alloc_new w (opO 2 k a b2)) (by simp))
  have HLT := Lib.hid h.lt
  have hbl := h.lt b (by simp [foot])
  have H := Lib.hid (fun W (hT : Frm.Turn [] w W) => h.step hT)
  obtain ⟨D', x, y, z, hx⟩ : ∃ D' x y z, D.dequeue = (D', (x, y), z) := ⟨_, _, _, _, rfl⟩
  have HC := Lib.hid (fun W (hT : Frm.Turn [] w W) => flat_dequeue (h.step hT) hf hd)
  rw [hx] at HC
  have HX := Lib.hid hx
  clear hx
  unfold opO resO at HT0 HB HO
  clear h hK hr
  go_enter Tryd.func14, Tryd.ntmps14
  go_upto_region 3 with (go_at_call 37; (with_reducible refine (HR.out _ HT0.out).mono ?_); rintro e w1 ⟨rfl, hT⟩; have HT1 := Lib.hid (HT0.out.trans hT (by simp)); have HB1 := Lib.hid (hT.keep HB.out (by simp)); have HO1 := Lib.hid (hT.keep HO.out (by simp)); have HZ1 := Lib.hid hT.size; clear hT)
  obtain ⟨o0, o1, o2, o3⟩ := op_cells HO1.out
  have hz1 := (Array.getElem?_eq_some_iff.1 HO1.out).1
  go_wp2_with (go_at_call 40; (with_reducible refine (HC.out _ HT1.out).mono ?_); rintro e w4 ⟨rfl, S2, hA⟩; obtain ⟨⟨n0, n1⟩, m0, m1⟩ := blk2 (hA.turn.keep HB1.out (fun hm => by have := HLT.out _ hm; omega)); have HB4 := Lib.hid (hA.turn.keep HB1.out (fun hm => by have := HLT.out _ hm; omega)); have HA := Lib.hid hA; clear hA)
  have hs1 : w.heap.size + 2 ≤ w1.heap.size := by have := HZ1.out; simpa using this
  have r := blk2 (told_blk HB4.out (.int .i64 x) (.int .i64 y))
  exact bodyPost_ret (v := .tuple #[rv (x, y), .int .u64 z]) (by simp [results, Tryd.results14, go_sem, r.1.1, r.1.2]) rfl ⟨by rw [HX.out], S2, by rw [HX.out]; exact app_fin HT1.out hs1 HLT.out HA.out _ _⟩
set_option maxRecDepth 100000 in
set_option maxHeartbeats 4000000 in
theorem apply_floor {w : World} {b : Nat} {S : Sh} {D : Dr} {N : Nat} (h : DAt w b S D N) (hK : Ops.Kn w) (k a b2 : Int) (hf : Flat D) (hN : N ≤ 90000) (hk0 : 0 ≤ k) (hk1 : k ≤ 255) (hr : Ops.opT.rightB 9 k a b2 = true) :
    Calls Tryd.prog 14 #[.pointer (some ⟨b, 0, none⟩), .agg #[.int .i64 9, .int .i64 k, .int .i64 a, .int .i64 b2]] w (OpEnd w b S N ((D, D.floorAt (k + 1).toNat) : Dr × Rs × Int)) := by
  have HR := Lib.hid (fun W (hT : Frm.Turn [] w W) => Ops.right_any 9 k a b2 W (hK.turn hT))
  rw [hr] at HR
  have HT0 := Lib.hid (((Frm.Turn.refl [] w).alloc (opO 9 k a b2)).alloc resO)
  have HB := Lib.hid (res_at w (opO 9 k a b2))
  have HO := Lib.hid (((Frm.Turn.refl [] _).alloc resO).keep (heap_alloc_new w (opO 9 k a b2)) (by simp))
  have HLT := Lib.hid h.lt
  have hbl := h.lt b (by simp [foot])
  have H := Lib.hid (fun W (hT : Frm.Turn [] w W) => h.step hT)
  obtain ⟨D', x, y, z, hx⟩ : ∃ D' x y z, ((D, D.floorAt (k + 1).toNat) : Dr × Rs × Int) = (D', (x, y), z) := ⟨_, _, _, _, rfl⟩
  have HC := Lib.hid (fun W (hT : Frm.Turn [] w W) => flat_floor (h.step hT) hf k hk0 hk1)
  rw [hx] at HC
  have HX := Lib.hid hx
  clear hx
  unfold opO resO at HT0 HB HO
  clear h hK hr
  go_enter Tryd.func14, Tryd.ntmps14
  go_upto_region 3 with (go_at_call 37; (with_reducible refine (HR.out _ HT0.out).mono ?_); rintro e w1 ⟨rfl, hT⟩; have HT1 := Lib.hid (HT0.out.trans hT (by simp)); have HB1 := Lib.hid (hT.keep HB.out (by simp)); have HO1 := Lib.hid (hT.keep HO.out (by simp)); have HZ1 := Lib.hid hT.size; clear hT)
  obtain ⟨o0, o1, o2, o3⟩ := op_cells HO1.out
  have hz1 := (Array.getElem?_eq_some_iff.1 HO1.out).1
  go_wp2_with (go_at_call 42; (with_reducible refine (HC.out _ HT1.out).mono ?_); rintro e w4 ⟨rfl, S2, hA⟩; obtain ⟨⟨n0, n1⟩, m0, m1⟩ := blk2 (hA.turn.keep HB1.out (fun hm => by have := HLT.out _ hm; omega)); have HB4 := Lib.hid (hA.turn.keep HB1.out (fun hm => by have := HLT.out _ hm; omega)); have HA := Lib.hid hA; clear hA)
  have hs1 : w.heap.size + 2 ≤ w1.heap.size := by have := HZ1.out; simpa using this
  have r := blk2 (told_blk HB4.out (.int .i64 x) (.int .i64 y))
  exact bodyPost_ret (v := .tuple #[rv (x, y), .int .u64 z]) (by simp [results, Tryd.results14, go_sem, r.1.1, r.1.2]) rfl ⟨by rw [HX.out], S2, by rw [HX.out]; exact app_fin HT1.out hs1 HLT.out HA.out _ _⟩
set_option maxRecDepth 100000 in
set_option maxHeartbeats 4000000 in
theorem apply_map4 {w : World} {b : Nat} {S : Sh} {D : Dr} {N : Nat} (h : DAt w b S D N) (hK : Ops.Kn w) (k a b2 : Int) (hf : Flat D) (hN : N ≤ 90000) (hk0 : 0 ≤ k) (hk1 : k ≤ 255) (ha0 : 0 ≤ a) (ha1 : a ≤ 1023) (hr : Ops.opT.rightB 4 k a b2 = true) :
    Calls Tryd.prog 14 #[.pointer (some ⟨b, 0, none⟩), .agg #[.int .i64 4, .int .i64 k, .int .i64 a, .int .i64 b2]] w (OpEnd w b S N (D.atKey 0 4 k a b2)) := by
  have HR := Lib.hid (fun W (hT : Frm.Turn [] w W) => Ops.right_any 4 k a b2 W (hK.turn hT))
  rw [hr] at HR
  have HT0 := Lib.hid (((Frm.Turn.refl [] w).alloc (opO 4 k a b2)).alloc resO)
  have HB := Lib.hid (res_at w (opO 4 k a b2))
  have HO := Lib.hid (((Frm.Turn.refl [] _).alloc resO).keep (heap_alloc_new w (opO 4 k a b2)) (by simp))
  have HLT := Lib.hid h.lt
  have hbl := h.lt b (by simp [foot])
  have H := Lib.hid (fun W (hT : Frm.Turn [] w W) => h.step hT)
  obtain ⟨D', x, y, z, hx⟩ : ∃ D' x y z, (D.atKey 0 4 k a b2) = (D', (x, y), z) := ⟨_, _, _, _, rfl⟩
  have HC := Lib.hid (fun W (hT : Frm.Turn [] w W) => flat_atKey0 (h.step hT) hf hN 4 k a b2 hk0 hk1 ha0 ha1)
  rw [hx] at HC
  have HX := Lib.hid hx
  clear hx
  unfold opO resO at HT0 HB HO
  clear h hK hr
  go_enter Tryd.func14, Tryd.ntmps14
  go_upto_region 3 with (go_at_call 37; (with_reducible refine (HR.out _ HT0.out).mono ?_); rintro e w1 ⟨rfl, hT⟩; have HT1 := Lib.hid (HT0.out.trans hT (by simp)); have HB1 := Lib.hid (hT.keep HB.out (by simp)); have HO1 := Lib.hid (hT.keep HO.out (by simp)); have HZ1 := Lib.hid hT.size; clear hT)
  obtain ⟨o0, o1, o2, o3⟩ := op_cells HO1.out
  have hz1 := (Array.getElem?_eq_some_iff.1 HO1.out).1
  go_wp2_with (go_at_call 43; (with_reducible refine (HC.out _ HT1.out).mono ?_); rintro e w4 ⟨rfl, S2, hA⟩; obtain ⟨⟨n0, n1⟩, m0, m1⟩ := blk2 (hA.turn.keep HB1.out (fun hm => by have := HLT.out _ hm; omega)); have HB4 := Lib.hid (hA.turn.keep HB1.out (fun hm => by have := HLT.out _ hm; omega)); have HA := Lib.hid hA; clear hA)
  have hs1 : w.heap.size + 2 ≤ w1.heap.size := by have := HZ1.out; simpa using this
  have r := blk2 (told_blk HB4.out (.int .i64 x) (.int .i64 y))
  exact bodyPost_ret (v := .tuple #[rv (x, y), .int .u64 z]) (by simp [results, Tryd.results14, go_sem, r.1.1, r.1.2]) rfl ⟨by rw [HX.out], S2, by rw [HX.out]; exact app_fin HT1.out hs1 HLT.out HA.out _ _⟩
set_option maxRecDepth 100000 in
set_option maxHeartbeats 4000000 in
theorem apply_map5 {w : World} {b : Nat} {S : Sh} {D : Dr} {N : Nat} (h : DAt w b S D N) (hK : Ops.Kn w) (k a b2 : Int) (hf : Flat D) (hN : N ≤ 90000) (hk0 : 0 ≤ k) (hk1 : k ≤ 255) (ha0 : 0 ≤ a) (ha1 : a ≤ 1023) (hr : Ops.opT.rightB 5 k a b2 = true) :
    Calls Tryd.prog 14 #[.pointer (some ⟨b, 0, none⟩), .agg #[.int .i64 5, .int .i64 k, .int .i64 a, .int .i64 b2]] w (OpEnd w b S N (D.atKey 0 5 k a b2)) := by
  have HR := Lib.hid (fun W (hT : Frm.Turn [] w W) => Ops.right_any 5 k a b2 W (hK.turn hT))
  rw [hr] at HR
  have HT0 := Lib.hid (((Frm.Turn.refl [] w).alloc (opO 5 k a b2)).alloc resO)
  have HB := Lib.hid (res_at w (opO 5 k a b2))
  have HO := Lib.hid (((Frm.Turn.refl [] _).alloc resO).keep (heap_alloc_new w (opO 5 k a b2)) (by simp))
  have HLT := Lib.hid h.lt
  have hbl := h.lt b (by simp [foot])
  have H := Lib.hid (fun W (hT : Frm.Turn [] w W) => h.step hT)
  obtain ⟨D', x, y, z, hx⟩ : ∃ D' x y z, (D.atKey 0 5 k a b2) = (D', (x, y), z) := ⟨_, _, _, _, rfl⟩
  have HC := Lib.hid (fun W (hT : Frm.Turn [] w W) => flat_atKey0 (h.step hT) hf hN 5 k a b2 hk0 hk1 ha0 ha1)
  rw [hx] at HC
  have HX := Lib.hid hx
  clear hx
  unfold opO resO at HT0 HB HO
  clear h hK hr
  go_enter Tryd.func14, Tryd.ntmps14
  go_upto_region 3 with (go_at_call 37; (with_reducible refine (HR.out _ HT0.out).mono ?_); rintro e w1 ⟨rfl, hT⟩; have HT1 := Lib.hid (HT0.out.trans hT (by simp)); have HB1 := Lib.hid (hT.keep HB.out (by simp)); have HO1 := Lib.hid (hT.keep HO.out (by simp)); have HZ1 := Lib.hid hT.size; clear hT)
  obtain ⟨o0, o1, o2, o3⟩ := op_cells HO1.out
  have hz1 := (Array.getElem?_eq_some_iff.1 HO1.out).1
  go_wp2_with (go_at_call 43; (with_reducible refine (HC.out _ HT1.out).mono ?_); rintro e w4 ⟨rfl, S2, hA⟩; obtain ⟨⟨n0, n1⟩, m0, m1⟩ := blk2 (hA.turn.keep HB1.out (fun hm => by have := HLT.out _ hm; omega)); have HB4 := Lib.hid (hA.turn.keep HB1.out (fun hm => by have := HLT.out _ hm; omega)); have HA := Lib.hid hA; clear hA)
  have hs1 : w.heap.size + 2 ≤ w1.heap.size := by have := HZ1.out; simpa using this
  have r := blk2 (told_blk HB4.out (.int .i64 x) (.int .i64 y))
  exact bodyPost_ret (v := .tuple #[rv (x, y), .int .u64 z]) (by simp [results, Tryd.results14, go_sem, r.1.1, r.1.2]) rfl ⟨by rw [HX.out], S2, by rw [HX.out]; exact app_fin HT1.out hs1 HLT.out HA.out _ _⟩
set_option maxRecDepth 100000 in
set_option maxHeartbeats 4000000 in
theorem apply_map6 {w : World} {b : Nat} {S : Sh} {D : Dr} {N : Nat} (h : DAt w b S D N) (hK : Ops.Kn w) (k a b2 : Int) (hf : Flat D) (hN : N ≤ 90000) (hk0 : 0 ≤ k) (hk1 : k ≤ 255) (ha0 : 0 ≤ a) (ha1 : a ≤ 1023) (hr : Ops.opT.rightB 6 k a b2 = true) :
    Calls Tryd.prog 14 #[.pointer (some ⟨b, 0, none⟩), .agg #[.int .i64 6, .int .i64 k, .int .i64 a, .int .i64 b2]] w (OpEnd w b S N (D.atKey 0 6 k a b2)) := by
  have HR := Lib.hid (fun W (hT : Frm.Turn [] w W) => Ops.right_any 6 k a b2 W (hK.turn hT))
  rw [hr] at HR
  have HT0 := Lib.hid (((Frm.Turn.refl [] w).alloc (opO 6 k a b2)).alloc resO)
  have HB := Lib.hid (res_at w (opO 6 k a b2))
  have HO := Lib.hid (((Frm.Turn.refl [] _).alloc resO).keep (heap_alloc_new w (opO 6 k a b2)) (by simp))
  have HLT := Lib.hid h.lt
  have hbl := h.lt b (by simp [foot])
  have H := Lib.hid (fun W (hT : Frm.Turn [] w W) => h.step hT)
  obtain ⟨D', x, y, z, hx⟩ : ∃ D' x y z, (D.atKey 0 6 k a b2) = (D', (x, y), z) := ⟨_, _, _, _, rfl⟩
  have HC := Lib.hid (fun W (hT : Frm.Turn [] w W) => flat_atKey0 (h.step hT) hf hN 6 k a b2 hk0 hk1 ha0 ha1)
  rw [hx] at HC
  have HX := Lib.hid hx
  clear hx
  unfold opO resO at HT0 HB HO
  clear h hK hr
  go_enter Tryd.func14, Tryd.ntmps14
  go_upto_region 3 with (go_at_call 37; (with_reducible refine (HR.out _ HT0.out).mono ?_); rintro e w1 ⟨rfl, hT⟩; have HT1 := Lib.hid (HT0.out.trans hT (by simp)); have HB1 := Lib.hid (hT.keep HB.out (by simp)); have HO1 := Lib.hid (hT.keep HO.out (by simp)); have HZ1 := Lib.hid hT.size; clear hT)
  obtain ⟨o0, o1, o2, o3⟩ := op_cells HO1.out
  have hz1 := (Array.getElem?_eq_some_iff.1 HO1.out).1
  go_wp2_with (go_at_call 43; (with_reducible refine (HC.out _ HT1.out).mono ?_); rintro e w4 ⟨rfl, S2, hA⟩; obtain ⟨⟨n0, n1⟩, m0, m1⟩ := blk2 (hA.turn.keep HB1.out (fun hm => by have := HLT.out _ hm; omega)); have HB4 := Lib.hid (hA.turn.keep HB1.out (fun hm => by have := HLT.out _ hm; omega)); have HA := Lib.hid hA; clear hA)
  have hs1 : w.heap.size + 2 ≤ w1.heap.size := by have := HZ1.out; simpa using this
  have r := blk2 (told_blk HB4.out (.int .i64 x) (.int .i64 y))
  exact bodyPost_ret (v := .tuple #[rv (x, y), .int .u64 z]) (by simp [results, Tryd.results14, go_sem, r.1.1, r.1.2]) rfl ⟨by rw [HX.out], S2, by rw [HX.out]; exact app_fin HT1.out hs1 HLT.out HA.out _ _⟩
set_option maxRecDepth 100000 in
set_option maxHeartbeats 4000000 in
theorem apply_map7 {w : World} {b : Nat} {S : Sh} {D : Dr} {N : Nat} (h : DAt w b S D N) (hK : Ops.Kn w) (k a b2 : Int) (hf : Flat D) (hN : N ≤ 90000) (hk0 : 0 ≤ k) (hk1 : k ≤ 255) (ha0 : 0 ≤ a) (ha1 : a ≤ 1023) (hr : Ops.opT.rightB 7 k a b2 = true) :
    Calls Tryd.prog 14 #[.pointer (some ⟨b, 0, none⟩), .agg #[.int .i64 7, .int .i64 k, .int .i64 a, .int .i64 b2]] w (OpEnd w b S N (D.atKey 0 7 k a b2)) := by
  have HR := Lib.hid (fun W (hT : Frm.Turn [] w W) => Ops.right_any 7 k a b2 W (hK.turn hT))
  rw [hr] at HR
  have HT0 := Lib.hid (((Frm.Turn.refl [] w).alloc (opO 7 k a b2)).alloc resO)
  have HB := Lib.hid (res_at w (opO 7 k a b2))
  have HO := Lib.hid (((Frm.Turn.refl [] _).alloc resO).keep (heap_alloc_new w (opO 7 k a b2)) (by simp))
  have HLT := Lib.hid h.lt
  have hbl := h.lt b (by simp [foot])
  have H := Lib.hid (fun W (hT : Frm.Turn [] w W) => h.step hT)
  obtain ⟨D', x, y, z, hx⟩ : ∃ D' x y z, (D.atKey 0 7 k a b2) = (D', (x, y), z) := ⟨_, _, _, _, rfl⟩
  have HC := Lib.hid (fun W (hT : Frm.Turn [] w W) => flat_atKey0 (h.step hT) hf hN 7 k a b2 hk0 hk1 ha0 ha1)
  rw [hx] at HC
  have HX := Lib.hid hx
  clear hx
  unfold opO resO at HT0 HB HO
  clear h hK hr
  go_enter Tryd.func14, Tryd.ntmps14
  go_upto_region 3 with (go_at_call 37; (with_reducible refine (HR.out _ HT0.out).mono ?_); rintro e w1 ⟨rfl, hT⟩; have HT1 := Lib.hid (HT0.out.trans hT (by simp)); have HB1 := Lib.hid (hT.keep HB.out (by simp)); have HO1 := Lib.hid (hT.keep HO.out (by simp)); have HZ1 := Lib.hid hT.size; clear hT)
  obtain ⟨o0, o1, o2, o3⟩ := op_cells HO1.out
  have hz1 := (Array.getElem?_eq_some_iff.1 HO1.out).1
  go_wp2_with (go_at_call 43; (with_reducible refine (HC.out _ HT1.out).mono ?_); rintro e w4 ⟨rfl, S2, hA⟩; obtain ⟨⟨n0, n1⟩, m0, m1⟩ := blk2 (hA.turn.keep HB1.out (fun hm => by have := HLT.out _ hm; omega)); have HB4 := Lib.hid (hA.turn.keep HB1.out (fun hm => by have := HLT.out _ hm; omega)); have HA := Lib.hid hA; clear hA)
  have hs1 : w.heap.size + 2 ≤ w1.heap.size := by have := HZ1.out; simpa using this
  have r := blk2 (told_blk HB4.out (.int .i64 x) (.int .i64 y))
  exact bodyPost_ret (v := .tuple #[rv (x, y), .int .u64 z]) (by simp [results, Tryd.results14, go_sem, r.1.1, r.1.2]) rfl ⟨by rw [HX.out], S2, by rw [HX.out]; exact app_fin HT1.out hs1 HLT.out HA.out _ _⟩
set_option maxRecDepth 100000 in
set_option maxHeartbeats 4000000 in
theorem apply_sem10 {w : World} {b : Nat} {S : Sh} {D : Dr} {N : Nat} (h : DAt w b S D N) (hK : Ops.Kn w) (k a b2 : Int) (hf : Flat D) (hN : N ≤ 90000) (hk0 : 0 ≤ k) (hk1 : k ≤ 255) (ha0 : 0 ≤ a) (ha1 : a ≤ 1023) (hr : Ops.opT.rightB 10 k a b2 = true) :
    Calls Tryd.prog 14 #[.pointer (some ⟨b, 0, none⟩), .agg #[.int .i64 10, .int .i64 k, .int .i64 a, .int .i64 b2]] w (OpEnd w b S N (D.atKey 2 10 k a b2)) := by
  have HR := Lib.hid (fun W (hT : Frm.Turn [] w W) => Ops.right_any 10 k a b2 W (hK.turn hT))
  rw [hr] at HR
  have HT0 := Lib.hid (((Frm.Turn.refl [] w).alloc (opO 10 k a b2)).alloc resO)
  have HB := Lib.hid (res_at w (opO 10 k a b2))
  have HO := Lib.hid (((Frm.Turn.refl [] _).alloc resO).keep (heap_alloc_new w (opO 10 k a b2)) (by simp))
  have HLT := Lib.hid h.lt
  have hbl := h.lt b (by simp [foot])
  have H := Lib.hid (fun W (hT : Frm.Turn [] w W) => h.step hT)
  obtain ⟨D', x, y, z, hx⟩ : ∃ D' x y z, (D.atKey 2 10 k a b2) = (D', (x, y), z) := ⟨_, _, _, _, rfl⟩
  have HC := Lib.hid (fun W (hT : Frm.Turn [] w W) => flat_atKey2 (h.step hT) hf hN 10 k a b2 hk0 hk1 ha0 ha1)
  rw [hx] at HC
  have HX := Lib.hid hx
  clear hx
  unfold opO resO at HT0 HB HO
  clear h hK hr
  go_enter Tryd.func14, Tryd.ntmps14
  go_upto_region 3 with (go_at_call 37; (with_reducible refine (HR.out _ HT0.out).mono ?_); rintro e w1 ⟨rfl, hT⟩; have HT1 := Lib.hid (HT0.out.trans hT (by simp)); have HB1 := Lib.hid (hT.keep HB.out (by simp)); have HO1 := Lib.hid (hT.keep HO.out (by simp)); have HZ1 := Lib.hid hT.size; clear hT)
  obtain ⟨o0, o1, o2, o3⟩ := op_cells HO1.out
  have hz1 := (Array.getElem?_eq_some_iff.1 HO1.out).1
  go_wp2_with (go_at_call 43; (with_reducible refine (HC.out _ HT1.out).mono ?_); rintro e w4 ⟨rfl, S2, hA⟩; obtain ⟨⟨n0, n1⟩, m0, m1⟩ := blk2 (hA.turn.keep HB1.out (fun hm => by have := HLT.out _ hm; omega)); have HB4 := Lib.hid (hA.turn.keep HB1.out (fun hm => by have := HLT.out _ hm; omega)); have HA := Lib.hid hA; clear hA)
  have hs1 : w.heap.size + 2 ≤ w1.heap.size := by have := HZ1.out; simpa using this
  have r := blk2 (told_blk HB4.out (.int .i64 x) (.int .i64 y))
  exact bodyPost_ret (v := .tuple #[rv (x, y), .int .u64 z]) (by simp [results, Tryd.results14, go_sem, r.1.1, r.1.2]) rfl ⟨by rw [HX.out], S2, by rw [HX.out]; exact app_fin HT1.out hs1 HLT.out HA.out _ _⟩
set_option maxRecDepth 100000 in
set_option maxHeartbeats 4000000 in
theorem apply_sem11 {w : World} {b : Nat} {S : Sh} {D : Dr} {N : Nat} (h : DAt w b S D N) (hK : Ops.Kn w) (k a b2 : Int) (hf : Flat D) (hN : N ≤ 90000) (hk0 : 0 ≤ k) (hk1 : k ≤ 255) (ha0 : 0 ≤ a) (ha1 : a ≤ 1023) (hr : Ops.opT.rightB 11 k a b2 = true) :
    Calls Tryd.prog 14 #[.pointer (some ⟨b, 0, none⟩), .agg #[.int .i64 11, .int .i64 k, .int .i64 a, .int .i64 b2]] w (OpEnd w b S N (D.atKey 2 11 k a b2)) := by
  have HR := Lib.hid (fun W (hT : Frm.Turn [] w W) => Ops.right_any 11 k a b2 W (hK.turn hT))
  rw [hr] at HR
  have HT0 := Lib.hid (((Frm.Turn.refl [] w).alloc (opO 11 k a b2)).alloc resO)
  have HB := Lib.hid (res_at w (opO 11 k a b2))
  have HO := Lib.hid (((Frm.Turn.refl [] _).alloc resO).keep (heap_alloc_new w (opO 11 k a b2)) (by simp))
  have HLT := Lib.hid h.lt
  have hbl := h.lt b (by simp [foot])
  have H := Lib.hid (fun W (hT : Frm.Turn [] w W) => h.step hT)
  obtain ⟨D', x, y, z, hx⟩ : ∃ D' x y z, (D.atKey 2 11 k a b2) = (D', (x, y), z) := ⟨_, _, _, _, rfl⟩
  have HC := Lib.hid (fun W (hT : Frm.Turn [] w W) => flat_atKey2 (h.step hT) hf hN 11 k a b2 hk0 hk1 ha0 ha1)
  rw [hx] at HC
  have HX := Lib.hid hx
  clear hx
  unfold opO resO at HT0 HB HO
  clear h hK hr
  go_enter Tryd.func14, Tryd.ntmps14
  go_upto_region 3 with (go_at_call 37; (with_reducible refine (HR.out _ HT0.out).mono ?_); rintro e w1 ⟨rfl, hT⟩; have HT1 := Lib.hid (HT0.out.trans hT (by simp)); have HB1 := Lib.hid (hT.keep HB.out (by simp)); have HO1 := Lib.hid (hT.keep HO.out (by simp)); have HZ1 := Lib.hid hT.size; clear hT)
  obtain ⟨o0, o1, o2, o3⟩ := op_cells HO1.out
  have hz1 := (Array.getElem?_eq_some_iff.1 HO1.out).1
  go_wp2_with (go_at_call 43; (with_reducible refine (HC.out _ HT1.out).mono ?_); rintro e w4 ⟨rfl, S2, hA⟩; obtain ⟨⟨n0, n1⟩, m0, m1⟩ := blk2 (hA.turn.keep HB1.out (fun hm => by have := HLT.out _ hm; omega)); have HB4 := Lib.hid (hA.turn.keep HB1.out (fun hm => by have := HLT.out _ hm; omega)); have HA := Lib.hid hA; clear hA)
  have hs1 : w.heap.size + 2 ≤ w1.heap.size := by have := HZ1.out; simpa using this
  have r := blk2 (told_blk HB4.out (.int .i64 x) (.int .i64 y))
  exact bodyPost_ret (v := .tuple #[rv (x, y), .int .u64 z]) (by simp [results, Tryd.results14, go_sem, r.1.1, r.1.2]) rfl ⟨by rw [HX.out], S2, by rw [HX.out]; exact app_fin HT1.out hs1 HLT.out HA.out _ _⟩
set_option maxRecDepth 100000 in
set_option maxHeartbeats 4000000 in
theorem apply_sem12 {w : World} {b : Nat} {S : Sh} {D : Dr} {N : Nat} (h : DAt w b S D N) (hK : Ops.Kn w) (k a b2 : Int) (hf : Flat D) (hN : N ≤ 90000) (hk0 : 0 ≤ k) (hk1 : k ≤ 255) (ha0 : 0 ≤ a) (ha1 : a ≤ 1023) (hr : Ops.opT.rightB 12 k a b2 = true) :
    Calls Tryd.prog 14 #[.pointer (some ⟨b, 0, none⟩), .agg #[.int .i64 12, .int .i64 k, .int .i64 a, .int .i64 b2]] w (OpEnd w b S N (D.atKey 2 12 k a b2)) := by
  have HR := Lib.hid (fun W (hT : Frm.Turn [] w W) => Ops.right_any 12 k a b2 W (hK.turn hT))
  rw [hr] at HR
  have HT0 := Lib.hid (((Frm.Turn.refl [] w).alloc (opO 12 k a b2)).alloc resO)
  have HB := Lib.hid (res_at w (opO 12 k a b2))
  have HO := Lib.hid (((Frm.Turn.refl [] _).alloc resO).keep (heap_alloc_new w (opO 12 k a b2)) (by simp))
  have HLT := Lib.hid h.lt
  have hbl := h.lt b (by simp [foot])
  have H := Lib.hid (fun W (hT : Frm.Turn [] w W) => h.step hT)
  obtain ⟨D', x, y, z, hx⟩ : ∃ D' x y z, (D.atKey 2 12 k a b2) = (D', (x, y), z) := ⟨_, _, _, _, rfl⟩
  have HC := Lib.hid (fun W (hT : Frm.Turn [] w W) => flat_atKey2 (h.step hT) hf hN 12 k a b2 hk0 hk1 ha0 ha1)
  rw [hx] at HC
  have HX := Lib.hid hx
  clear hx
  unfold opO resO at HT0 HB HO
  clear h hK hr
  go_enter Tryd.func14, Tryd.ntmps14
  go_upto_region 3 with (go_at_call 37; (with_reducible refine (HR.out _ HT0.out).mono ?_); rintro e w1 ⟨rfl, hT⟩; have HT1 := Lib.hid (HT0.out.trans hT (by simp)); have HB1 := Lib.hid (hT.keep HB.out (by simp)); have HO1 := Lib.hid (hT.keep HO.out (by simp)); have HZ1 := Lib.hid hT.size; clear hT)
  obtain ⟨o0, o1, o2, o3⟩ := op_cells HO1.out
  have hz1 := (Array.getElem?_eq_some_iff.1 HO1.out).1
  go_wp2_with (go_at_call 43; (with_reducible refine (HC.out _ HT1.out).mono ?_); rintro e w4 ⟨rfl, S2, hA⟩; obtain ⟨⟨n0, n1⟩, m0, m1⟩ := blk2 (hA.turn.keep HB1.out (fun hm => by have := HLT.out _ hm; omega)); have HB4 := Lib.hid (hA.turn.keep HB1.out (fun hm => by have := HLT.out _ hm; omega)); have HA := Lib.hid hA; clear hA)
  have hs1 : w.heap.size + 2 ≤ w1.heap.size := by have := HZ1.out; simpa using this
  have r := blk2 (told_blk HB4.out (.int .i64 x) (.int .i64 y))
  exact bodyPost_ret (v := .tuple #[rv (x, y), .int .u64 z]) (by simp [results, Tryd.results14, go_sem, r.1.1, r.1.2]) rfl ⟨by rw [HX.out], S2, by rw [HX.out]; exact app_fin HT1.out hs1 HLT.out HA.out _ _⟩
set_option maxRecDepth 100000 in
set_option maxHeartbeats 4000000 in
theorem apply_sem13 {w : World} {b : Nat} {S : Sh} {D : Dr} {N : Nat} (h : DAt w b S D N) (hK : Ops.Kn w) (k a b2 : Int) (hf : Flat D) (hN : N ≤ 90000) (hk0 : 0 ≤ k) (hk1 : k ≤ 255) (ha0 : 0 ≤ a) (ha1 : a ≤ 1023) (hr : Ops.opT.rightB 13 k a b2 = true) :
    Calls Tryd.prog 14 #[.pointer (some ⟨b, 0, none⟩), .agg #[.int .i64 13, .int .i64 k, .int .i64 a, .int .i64 b2]] w (OpEnd w b S N (D.atKey 2 13 k a b2)) := by
  have HR := Lib.hid (fun W (hT : Frm.Turn [] w W) => Ops.right_any 13 k a b2 W (hK.turn hT))
  rw [hr] at HR
  have HT0 := Lib.hid (((Frm.Turn.refl [] w).alloc (opO 13 k a b2)).alloc resO)
  have HB := Lib.hid (res_at w (opO 13 k a b2))
  have HO := Lib.hid (((Frm.Turn.refl [] _).alloc resO).keep (heap_alloc_new w (opO 13 k a b2)) (by simp))
  have HLT := Lib.hid h.lt
  have hbl := h.lt b (by simp [foot])
  have H := Lib.hid (fun W (hT : Frm.Turn [] w W) => h.step hT)
  obtain ⟨D', x, y, z, hx⟩ : ∃ D' x y z, (D.atKey 2 13 k a b2) = (D', (x, y), z) := ⟨_, _, _, _, rfl⟩
  have HC := Lib.hid (fun W (hT : Frm.Turn [] w W) => flat_atKey2 (h.step hT) hf hN 13 k a b2 hk0 hk1 ha0 ha1)
  rw [hx] at HC
  have HX := Lib.hid hx
  clear hx
  unfold opO resO at HT0 HB HO
  clear h hK hr
  go_enter Tryd.func14, Tryd.ntmps14
  go_upto_region 3 with (go_at_call 37; (with_reducible refine (HR.out _ HT0.out).mono ?_); rintro e w1 ⟨rfl, hT⟩; have HT1 := Lib.hid (HT0.out.trans hT (by simp)); have HB1 := Lib.hid (hT.keep HB.out (by simp)); have HO1 := Lib.hid (hT.keep HO.out (by simp)); have HZ1 := Lib.hid hT.size; clear hT)
  obtain ⟨o0, o1, o2, o3⟩ := op_cells HO1.out
  have hz1 := (Array.getElem?_eq_some_iff.1 HO1.out).1
  go_wp2_with (go_at_call 43; (with_reducible refine (HC.out _ HT1.out).mono ?_); rintro e w4 ⟨rfl, S2, hA⟩; obtain ⟨⟨n0, n1⟩, m0, m1⟩ := blk2 (hA.turn.keep HB1.out (fun hm => by have := HLT.out _ hm; omega)); have HB4 := Lib.hid (hA.turn.keep HB1.out (fun hm => by have := HLT.out _ hm; omega)); have HA := Lib.hid hA; clear hA)
  have hs1 : w.heap.size + 2 ≤ w1.heap.size := by have := HZ1.out; simpa using this
  have r := blk2 (told_blk HB4.out (.int .i64 x) (.int .i64 y))
  exact bodyPost_ret (v := .tuple #[rv (x, y), .int .u64 z]) (by simp [results, Tryd.results14, go_sem, r.1.1, r.1.2]) rfl ⟨by rw [HX.out], S2, by rw [HX.out]; exact app_fin HT1.out hs1 HLT.out HA.out _ _⟩
set_option maxRecDepth 100000 in
set_option maxHeartbeats 4000000 in
theorem apply_sem14 {w : World} {b : Nat} {S : Sh} {D : Dr} {N : Nat} (h : DAt w b S D N) (hK : Ops.Kn w) (k a b2 : Int) (hf : Flat D) (hN : N ≤ 90000) (hk0 : 0 ≤ k) (hk1 : k ≤ 255) (ha0 : 0 ≤ a) (ha1 : a ≤ 1023) (hr : Ops.opT.rightB 14 k a b2 = true) :
    Calls Tryd.prog 14 #[.pointer (some ⟨b, 0, none⟩), .agg #[.int .i64 14, .int .i64 k, .int .i64 a, .int .i64 b2]] w (OpEnd w b S N (D.atKey 2 14 k a b2)) := by
  have HR := Lib.hid (fun W (hT : Frm.Turn [] w W) => Ops.right_any 14 k a b2 W (hK.turn hT))
  rw [hr] at HR
  have HT0 := Lib.hid (((Frm.Turn.refl [] w).alloc (opO 14 k a b2)).alloc resO)
  have HB := Lib.hid (res_at w (opO 14 k a b2))
  have HO := Lib.hid (((Frm.Turn.refl [] _).alloc resO).keep (heap_alloc_new w (opO 14 k a b2)) (by simp))
  have HLT := Lib.hid h.lt
  have hbl := h.lt b (by simp [foot])
  have H := Lib.hid (fun W (hT : Frm.Turn [] w W) => h.step hT)
  obtain ⟨D', x, y, z, hx⟩ : ∃ D' x y z, (D.atKey 2 14 k a b2) = (D', (x, y), z) := ⟨_, _, _, _, rfl⟩
  have HC := Lib.hid (fun W (hT : Frm.Turn [] w W) => flat_atKey2 (h.step hT) hf hN 14 k a b2 hk0 hk1 ha0 ha1)
  rw [hx] at HC
  have HX := Lib.hid hx
  clear hx
  unfold opO resO at HT0 HB HO
  clear h hK hr
  go_enter Tryd.func14, Tryd.ntmps14
  go_upto_region 3 with (go_at_call 37; (with_reducible refine (HR.out _ HT0.out).mono ?_); rintro e w1 ⟨rfl, hT⟩; have HT1 := Lib.hid (HT0.out.trans hT (by simp)); have HB1 := Lib.hid (hT.keep HB.out (by simp)); have HO1 := Lib.hid (hT.keep HO.out (by simp)); have HZ1 := Lib.hid hT.size; clear hT)
  obtain ⟨o0, o1, o2, o3⟩ := op_cells HO1.out
  have hz1 := (Array.getElem?_eq_some_iff.1 HO1.out).1
  go_wp2_with (go_at_call 43; (with_reducible refine (HC.out _ HT1.out).mono ?_); rintro e w4 ⟨rfl, S2, hA⟩; obtain ⟨⟨n0, n1⟩, m0, m1⟩ := blk2 (hA.turn.keep HB1.out (fun hm => by have := HLT.out _ hm; omega)); have HB4 := Lib.hid (hA.turn.keep HB1.out (fun hm => by have := HLT.out _ hm; omega)); have HA := Lib.hid hA; clear hA)
  have hs1 : w.heap.size + 2 ≤ w1.heap.size := by have := HZ1.out; simpa using this
  have r := blk2 (told_blk HB4.out (.int .i64 x) (.int .i64 y))
  exact bodyPost_ret (v := .tuple #[rv (x, y), .int .u64 z]) (by simp [results, Tryd.results14, go_sem, r.1.1, r.1.2]) rfl ⟨by rw [HX.out], S2, by rw [HX.out]; exact app_fin HT1.out hs1 HLT.out HA.out _ _⟩
set_option maxRecDepth 100000 in
set_option maxHeartbeats 4000000 in
theorem apply_len1 {w : World} {b : Nat} {S : Sh} {D : Dr} {N : Nat} (h : DAt w b S D N) (hK : Ops.Kn w) (k a b2 : Int) (hr : Ops.opT.rightB 3 k a b2 = true) :
    Calls Tryd.prog 14 #[.pointer (some ⟨b, 0, none⟩), .agg #[.int .i64 3, .int .i64 k, .int .i64 a, .int .i64 b2]] w (OpEnd w b S N ((D, (0, D.len 1), 0) : Dr × Rs × Int)) := by
  have HR := Lib.hid (fun W (hT : Frm.Turn [] w W) => Ops.right_any 3 k a b2 W (hK.turn hT))
  rw [hr] at HR
  have HT0 := Lib.hid (((Frm.Turn.refl [] w).alloc (opO 3 k a b2)).alloc resO)
  have HB := Lib.hid (res_at w (opO 3 k a b2))
  have HO := Lib.hid (((Frm.Turn.refl [] _).alloc resO).keep (heap_alloc_new w (opO 3 k a b2)) (by simp))
  have HLT := Lib.hid h.lt
  have hbl := h.lt b (by simp [foot])
  have H := Lib.hid (fun W (hT : Frm.Turn [] w W) => h.step hT)
  have c0 := (h.own.2.1 1 (by omega)).1
  obtain ⟨ln, hln⟩ : ∃ ln, ln = D.len 1 := ⟨_, rfl⟩
  rw [← hln] at c0 ⊢
  have HC0 : Hid (∀ W, Frm.Turn [] w W → W.cell? ⟨b, 7 + 1, none⟩ = some (.int .i64 ln)) := Lib.hid fun W hT => hT.cell c0 (by simp)
  have HS := Lib.hid (fun W (hT : Frm.Turn [] w W) => (Aft.refl (h.mono (Nat.le_add_right N 4))).still hT)
  clear hln c0
  unfold opO resO at HT0 HB HO
  clear h hK hr
  go_enter Tryd.func14, Tryd.ntmps14
  go_upto_region 3 with (go_at_call 37; (with_reducible refine (HR.out _ HT0.out).mono ?_); rintro e w1 ⟨rfl, hT⟩; have HT1 := Lib.hid (HT0.out.trans hT (by simp)); have HB1 := Lib.hid (hT.keep HB.out (by simp)); have HO1 := Lib.hid (hT.keep HO.out (by simp)); have HZ1 := Lib.hid hT.size; clear hT)
  obtain ⟨o0, o1, o2, o3⟩ := op_cells HO1.out
  have hz1 := (Array.getElem?_eq_some_iff.1 HO1.out).1
  have cL := HC0.out _ HT1.out
  have hb1 : b < w1.heap.size := Nat.lt_of_lt_of_le hbl HT1.out.size
  go_wp2_with (go_at_call 41; (with_reducible refine (done_any _ _).mono ?_); rintro e w4 ⟨rfl, hT⟩; obtain ⟨⟨n0, n1⟩, m0, m1⟩ := blk2 (hT.keep HB1.out (by simp)); have HB4 := Lib.hid (hT.keep HB1.out (by simp)); have HT4 := Lib.hid (HT1.out.trans hT (by simp)); clear hT)
  have r := blk2 (told_blk HB4.out (.int .i64 0) (.int .i64 ln))
  exact bodyPost_ret (v := .tuple #[rv (0, ln), .int .u64 0]) (by simp [results, Tryd.results14, go_sem, r.1.1, r.1.2]) rfl ⟨rfl, S, ((HS.out _ HT4.out).side (g := w.heap.size + 1) (((Frm.Turn.refl _ _).setCell (.inl (by simp)) _).setCell (.inl (by simp)) _) (by omega) (fun hm => by have := HLT.out _ hm; omega))⟩
set_option maxRecDepth 100000 in
set_option maxHeartbeats 4000000 in
theorem apply_len0 {w : World} {b : Nat} {S : Sh} {D : Dr} {N : Nat} (h : DAt w b S D N) (hK : Ops.Kn w) (k a b2 : Int) (hr : Ops.opT.rightB 8 k a b2 = true) :
    Calls Tryd.prog 14 #[.pointer (some ⟨b, 0, none⟩), .agg #[.int .i64 8, .int .i64 k, .int .i64 a, .int .i64 b2]] w (OpEnd w b S N ((D, (0, D.len 0), 0) : Dr × Rs × Int)) := by
  have HR := Lib.hid (fun W (hT : Frm.Turn [] w W) => Ops.right_any 8 k a b2 W (hK.turn hT))
  rw [hr] at HR
  have HT0 := Lib.hid (((Frm.Turn.refl [] w).alloc (opO 8 k a b2)).alloc resO)
  have HB := Lib.hid (res_at w (opO 8 k a b2))
  have HO := Lib.hid (((Frm.Turn.refl [] _).alloc resO).keep (heap_alloc_new w (opO 8 k a b2)) (by simp))
  have HLT := Lib.hid h.lt
  have hbl := h.lt b (by simp [foot])
  have H := Lib.hid (fun W (hT : Frm.Turn [] w W) => h.step hT)
  have c0 := (h.own.2.1 0 (by omega)).1
  obtain ⟨ln, hln⟩ : ∃ ln, ln = D.len 0 := ⟨_, rfl⟩
  rw [← hln] at c0 ⊢
  have HC0 : Hid (∀ W, Frm.Turn [] w W → W.cell? ⟨b, 7 + 0, none⟩ = some (.int .i64 ln)) := Lib.hid fun W hT => hT.cell c0 (by simp)
  have HS := Lib.hid (fun W (hT : Frm.Turn [] w W) => (Aft.refl (h.mono (Nat.le_add_right N 4))).still hT)
  clear hln c0
  unfold opO resO at HT0 HB HO
  clear h hK hr
  go_enter Tryd.func14, Tryd.ntmps14
  go_upto_region 3 with (go_at_call 37; (with_reducible refine (HR.out _ HT0.out).mono ?_); rintro e w1 ⟨rfl, hT⟩; have HT1 := Lib.hid (HT0.out.trans hT (by simp)); have HB1 := Lib.hid (hT.keep HB.out (by simp)); have HO1 := Lib.hid (hT.keep HO.out (by simp)); have HZ1 := Lib.hid hT.size; clear hT)
  obtain ⟨o0, o1, o2, o3⟩ := op_cells HO1.out
  have hz1 := (Array.getElem?_eq_some_iff.1 HO1.out).1
  have cL := HC0.out _ HT1.out
  have hb1 : b < w1.heap.size := Nat.lt_of_lt_of_le hbl HT1.out.size
  go_wp2_with (go_at_call 41; (with_reducible refine (done_any _ _).mono ?_); rintro e w4 ⟨rfl, hT⟩; obtain ⟨⟨n0, n1⟩, m0, m1⟩ := blk2 (hT.keep HB1.out (by simp)); have HB4 := Lib.hid (hT.keep HB1.out (by simp)); have HT4 := Lib.hid (HT1.out.trans hT (by simp)); clear hT)
  have r := blk2 (told_blk HB4.out (.int .i64 0) (.int .i64 ln))
  exact bodyPost_ret (v := .tuple #[rv (0, ln), .int .u64 0]) (by simp [results, Tryd.results14, go_sem, r.1.1, r.1.2]) rfl ⟨rfl, S, ((HS.out _ HT4.out).side (g := w.heap.size + 1) (((Frm.Turn.refl _ _).setCell (.inl (by simp)) _).setCell (.inl (by simp)) _) (by omega) (fun hm => by have := HLT.out _ hm; omega))⟩
set_option maxRecDepth 100000 in
set_option maxHeartbeats 4000000 in
theorem apply_zero {w : World} {b : Nat} {S : Sh} {D : Dr} {N : Nat} (h : DAt w b S D N) (hK : Ops.Kn w) (k a b2 : Int) (hr : Ops.opT.rightB 0 k a b2 = true) :
    Calls Tryd.prog 14 #[.pointer (some ⟨b, 0, none⟩), .agg #[.int .i64 0, .int .i64 k, .int .i64 a, .int .i64 b2]] w (OpEnd w b S N ((D, (1, 0), 0) : Dr × Rs × Int)) := by
  have HR := Lib.hid (fun W (hT : Frm.Turn [] w W) => Ops.right_any 0 k a b2 W (hK.turn hT))
  rw [hr] at HR
  have HT0 := Lib.hid (((Frm.Turn.refl [] w).alloc (opO 0 k a b2)).alloc resO)
  have HB := Lib.hid (res_at w (opO 0 k a b2))
  have HO := Lib.hid (((Frm.Turn.refl [] _).alloc resO).keep (heap_alloc_new w (opO 0 k a b2)) (by simp))
  have HLT := Lib.hid h.lt
  have hbl := h.lt b (by simp [foot])
  have H := Lib.hid (fun W (hT : Frm.Turn [] w W) => h.step hT)
  have HS := Lib.hid (fun W (hT : Frm.Turn [] w W) => (Aft.refl (h.mono (Nat.le_add_right N 4))).still hT)
  unfold opO resO at HT0 HB HO
  clear h hK hr
  go_enter Tryd.func14, Tryd.ntmps14
  go_upto_region 3 with (go_at_call 37; (with_reducible refine (HR.out _ HT0.out).mono ?_); rintro e w1 ⟨rfl, hT⟩; have HT1 := Lib.hid (HT0.out.trans hT (by simp)); have HB1 := Lib.hid (hT.keep HB.out (by simp)); have HO1 := Lib.hid (hT.keep HO.out (by simp)); have HZ1 := Lib.hid hT.size; clear hT)
  obtain ⟨o0, o1, o2, o3⟩ := op_cells HO1.out
  have hz1 := (Array.getElem?_eq_some_iff.1 HO1.out).1
  go_wp2_with (go_at_call 38; (with_reducible refine (none_any _).mono ?_); rintro e w4 ⟨rfl, hT⟩; obtain ⟨⟨n0, n1⟩, m0, m1⟩ := blk2 (hT.keep HB1.out (by simp)); have HB4 := Lib.hid (hT.keep HB1.out (by simp)); have HT4 := Lib.hid (HT1.out.trans hT (by simp)); clear hT)
  have r := blk2 (told_blk HB4.out (.int .i64 1) (.int .i64 0))
  exact bodyPost_ret (v := .tuple #[rv (1, 0), .int .u64 0]) (by simp [results, Tryd.results14, go_sem, r.1.1, r.1.2]) rfl ⟨rfl, S, ((HS.out _ HT4.out).side (g := w.heap.size + 1) (((Frm.Turn.refl _ _).setCell (.inl (by simp)) _).setCell (.inl (by simp)) _) (by omega) (fun hm => by have := HLT.out _ hm; omega))⟩
set_option maxRecDepth 100000 in
set_option maxHeartbeats 4000000 in
theorem apply_wrong {w : World} {b : Nat} {S : Sh} {D : Dr} {N : Nat} (h : DAt w b S D N) (hK : Ops.Kn w) (k a b2 : Int) (c : Int) (hr : Ops.opT.rightB c k a b2 = false) :
    Calls Tryd.prog 14 #[.pointer (some ⟨b, 0, none⟩), .agg #[.int .i64 c, .int .i64 k, .int .i64 a, .int .i64 b2]] w (OpEnd w b S N ((D, (1, 0), 0) : Dr × Rs × Int)) := by
  have HR := Lib.hid (fun W (hT : Frm.Turn [] w W) => Ops.right_any c k a b2 W (hK.turn hT))
  rw [hr] at HR
  have HT0 := Lib.hid (((Frm.Turn.refl [] w).alloc (opO c k a b2)).alloc resO)
  have HB := Lib.hid (res_at w (opO c k a b2))
  have HO := Lib.hid (((Frm.Turn.refl [] _).alloc resO).keep (heap_alloc_new w (opO c k a b2)) (by simp))
  have HLT := Lib.hid h.lt
  have hbl := h.lt b (by simp [foot])
  have H := Lib.hid (fun W (hT : Frm.Turn [] w W) => h.step hT)
  have HS := Lib.hid (fun W (hT : Frm.Turn [] w W) => (Aft.refl (h.mono (Nat.le_add_right N 4))).still hT)
  unfold opO resO at HT0 HB HO
  clear h hK hr
  go_enter Tryd.func14, Tryd.ntmps14
  go_wp2_with (first | (go_at_call 37; (with_reducible refine (HR.out _ HT0.out).mono ?_); rintro e w1 ⟨rfl, hT⟩; have HT1 := Lib.hid (HT0.out.trans hT (by simp)); have HB1 := Lib.hid (hT.keep HB.out (by simp)); clear hT) | (go_at_call 38; (with_reducible refine (none_any _).mono ?_); rintro e w4 ⟨rfl, hT⟩; obtain ⟨⟨n0, n1⟩, m0, m1⟩ := blk2 (hT.keep HB1.out (by simp)); have HB4 := Lib.hid (hT.keep HB1.out (by simp)); have HT4 := Lib.hid (HT1.out.trans hT (by simp)); clear hT))
  have r := blk2 (told_blk HB4.out (.int .i64 1) (.int .i64 0))
  exact bodyPost_ret (v := .tuple #[rv (1, 0), .int .u64 0]) (by simp [results, Tryd.results14, go_sem, r.1.1, r.1.2]) rfl ⟨rfl, S, ((HS.out _ HT4.out).side (g := w.heap.size + 1) (((Frm.Turn.refl _ _).setCell (.inl (by simp)) _).setCell (.inl (by simp)) _) (by omega) (fun hm => by have := HLT.out _ hm; omega))⟩
end Drf
end Go.Proofs.YtjginajnegahdaaDoor
