/- The document's Get: a word, or why not. -/
import Derived.Test.YtfbnidjcimcfoaaArenaRefFree
set_option linter.unusedVariables false
set_option linter.unusedSimpArgs false
namespace Go.Proofs.Ytfbnidjcimcfoaa
namespace Arn
open Go.RowKit Hp Go.Maps

theorem RefIn.start3 (w : World) (CS Q Z : Array Value) (hz : Z.size = 20) : RefIn w w.heap.size (w.heap.size + 2) CS (((w.alloc (.cells CS 32)).alloc (.cells Q 42)).alloc (.cells Z 32)) ∧ (((w.alloc (.cells CS 32)).alloc (.cells Q 42)).alloc (.cells Z 32)).heap[w.heap.size + 1]? = some (.cells Q 42 (0, 0)) := by
  have h1 := World.alloc_heap_new w (.cells CS 32)
  have h2 := World.alloc_heap_new (w.alloc (.cells CS 32)) (.cells Q 42)
  have h3 := World.alloc_heap_new ((w.alloc (.cells CS 32)).alloc (.cells Q 42)) (.cells Z 32)
  rw [World.size_alloc] at h2
  rw [World.size_alloc, World.size_alloc] at h3
  have t2 : Frm.Turn [] (w.alloc (.cells CS 32)) (((w.alloc (.cells CS 32)).alloc (.cells Q 42)).alloc (.cells Z 32)) := ((Frm.Turn.refl [] _).alloc _).alloc _
  have t3 : Frm.Turn [] ((w.alloc (.cells CS 32)).alloc (.cells Q 42)) (((w.alloc (.cells CS 32)).alloc (.cells Q 42)).alloc (.cells Z 32)) := (Frm.Turn.refl [] _).alloc _
  exact ⟨⟨t2.keep h1 (by simp), ⟨Z, hz, h3⟩, by omega, Nat.le_refl _, by omega, ((Frm.Turn.refl [] w).alloc _).trans t2 (by simp)⟩, t3.keep h2 (by simp)⟩
theorem fix_cell (A : Ar) (f0 f1 f2 f3 f4 f5 f6 f7 f8 : Int) (v : Value) : ∀ j u, (u64s [f0, f1, f2, f3, f4, f5, f6, f7, f8])[j]? = some u → (refCells A f0 f1 f2 f3 f4 f5 f6 f7 f8 v)[4 + j]? = some u := by
  intro j u h
  match j, h with
  | 0, h => simpa [refCells, u64s] using h
  | 1, h => simpa [refCells, u64s] using h
  | 2, h => simpa [refCells, u64s] using h
  | 3, h => simpa [refCells, u64s] using h
  | 4, h => simpa [refCells, u64s] using h
  | 5, h => simpa [refCells, u64s] using h
  | 6, h => simpa [refCells, u64s] using h
  | 7, h => simpa [refCells, u64s] using h
  | 8, h => simpa [refCells, u64s] using h
  | n + 9, h => simp [u64s] at h
theorem word_at {ws : List Int} {m : Nat} (h : m < ws.length) : (u64s ws)[m]? = some (.int .u64 (ws.getD m 0)) := by
  simp [u64s, List.getElem?_map, List.getElem?_eq_getElem h, List.getD, h]
theorem cell_blt {w : World} {a : Addr} {v : Value} (h : w.cell? a = some v) : a.block < w.heap.size := by
  unfold World.cell? at h
  cases hh : w.heap[a.block]? with
  | none => simp [hh] at h
  | some o => exact (Array.getElem?_eq_some_iff.1 hh).1
set_option maxRecDepth 100000 in
set_option maxHeartbeats 4000000 in
theorem refGet_gone (A : Ar) (f0 f1 f2 f3 f4 f5 f6 f7 f8 : Int) (v : Value) (l : List RB) (w : World) (h : BlksAt w v l) (hl : l.length ≤ 70000) (hf : A.faults ≤ 100000000) (blk i : Int) (hne : blk ≠ 0) (hk : ∀ y, y ∈ l → y.1.h ≠ blk) :
    Calls Try.prog 48 #[.agg (refCells A f0 f1 f2 f3 f4 f5 f6 f7 f8 v), .agg #[.int .u64 blk, .int .i64 i]] w fun e w' => e = .returned (.tuple #[.agg (refCells A.miss f0 f1 f2 f3 f4 f5 f6 f7 f8 v), .int .u64 0, .int .i64 23]) ∧ Frm.Turn [] w w' := by
  obtain ⟨va, vc, rfl⟩ := h.form
  obtain ⟨fs, hfs⟩ := struct_of under_refA
  have HAT := Lib.hid (fun W (hT : Frm.Turn [] w W) => refAt_no A f0 f1 f2 f3 f4 f5 f6 f7 f8 _ l W (h.step hT) hl blk hk)
  obtain ⟨q, HQ⟩ : ∃ q, Hid (q = l.length) := ⟨_, Lib.hid rfl⟩
  rw [← HQ.out] at HAT ⊢
  obtain ⟨CS, HCS⟩ : ∃ CS, Hid (CS = refCells A f0 f1 f2 f3 f4 f5 f6 f7 f8 (.slice va q vc)) := ⟨_, Lib.hid rfl⟩
  have HSZCS : Hid (CS.size = 20) := Lib.hid (by rw [HCS.out]; rfl)
  have HONECS : Hid (CS.all (·.oneCell') = true) := Lib.hid (by rw [HCS.out]; exact refCells_one _ _ _ _ _ _ _ _ _ _ _ _ _)
  have HFS := Lib.hid hfs
  rw [show refCells A f0 f1 f2 f3 f4 f5 f6 f7 f8 (.slice va q vc) = CS from HCS.out.symm]
  rw [← HCS.out] at HAT
  clear h hfs hl
  go_enter Try.func48, Try.ntmps48
  go_upto_region 1 with fail
  obtain ⟨hin, hbq⟩ := RefIn.start3 w CS #[.int .u64 blk, .int .i64 i] #[.int .i64 0, .int .i64 0, .int .i64 0, .int .i64 0, .int .u64 0, .int .u64 0, .int .u64 0, .int .u64 0, .int .u64 0, .int .u64 0, .int .u64 0, .int .u64 0, .int .u64 0, .slice none 0 0, .int .i64 0, .int .i64 0, .int .i64 0, .int .i64 0, .int .i64 0, .int .i64 0] rfl
  obtain ⟨bx, Hx⟩ : ∃ bx, Hid (bx = w.heap.size) := ⟨_, Lib.hid rfl⟩
  obtain ⟨bq, Hq⟩ : ∃ bq, Hid (bq = w.heap.size + 1) := ⟨_, Lib.hid rfl⟩
  obtain ⟨bz, Hz⟩ : ∃ bz, Hid (bz = w.heap.size + 2) := ⟨_, Lib.hid rfl⟩
  rw [← Hz.out, ← Hx.out] at hin
  rw [← Hq.out] at hbq
  rw [← Hz.out, ← Hq.out, ← Hx.out]
  generalize ((w.alloc (.cells CS 32)).alloc _).alloc _ = W1 at hin hbq ⊢
  have HIN := Lib.hid hin
  have HT1 := Lib.hid hin.turn
  have HBQ := Lib.hid hbq
  have a0 : W1.cell? ⟨bq, 0, none⟩ = some (.int .u64 blk) := Frm.cell_row _ _ _ _ _ _ hbq
  have a1 : W1.cell? ⟨bq, 1, none⟩ = some (.int .i64 i) := Frm.cell_row _ _ _ _ _ _ hbq
  clear hin hbq
  have hb0 : (blk != 0) = true := by simpa using hne
  have hb1 : (blk == 0) = false := by simpa using hne
  go_upto_region 4 with (first
    | (refine wpList_load_row rfl 32 (.tmp 2) rfl bx rfl 32 CS (0, 0) (.struct fs) HIN.out.own HFS.out rfl (by rw [HSZCS.out]; exact info_refA) ?_)
    | (go_at_call 60; (with_reducible refine (HAT.out _ HT1.out).mono ?_); rintro e w2 ⟨rfl, hT⟩; have HT2 := Lib.hid hT; clear hT))
  have HIN2 := Lib.hid (HIN.out.step HT2.out (by simp) (by simp) (by simp))
  have HBQ2 := Lib.hid (HT2.out.keep HBQ.out (by simp))
  clear a0 a1
  have a0 : w2.cell? ⟨bq, 0, none⟩ = some (.int .u64 blk) := Frm.cell_row _ _ _ _ _ _ HBQ2.out
  have a1 : w2.cell? ⟨bq, 1, none⟩ = some (.int .i64 i) := Frm.cell_row _ _ _ _ _ _ HBQ2.out
  have c3 : w2.cell? ⟨bx, 3, none⟩ = some (.int .i64 A.faults) := by rw [HIN2.out.cell, HCS.out]; rfl
  have fr3 := HIN2.out.thaw 3
  go_upto_region 6 with fail
  have hin4 := HIN2.out.set 3 (.int .i64 ((A.faults : Int) + 1))
  generalize w2.setCell ⟨bx, 3, none⟩ (.int .i64 ((A.faults : Int) + 1)) = W4 at hin4 ⊢
  rw [HCS.out, miss_cells] at hin4
  obtain ⟨C4, HC4⟩ : ∃ C, Hid (C = refCells A.miss f0 f1 f2 f3 f4 f5 f6 f7 f8 (.slice va q vc)) := ⟨_, Lib.hid rfl⟩
  have HSZC4 : Hid (C4.size = 20) := Lib.hid (by rw [HC4.out]; rfl)
  have HONEC4 : Hid (C4.all (·.oneCell') = true) := Lib.hid (by rw [HC4.out]; exact refCells_one _ _ _ _ _ _ _ _ _ _ _ _ _)
  rw [← HC4.out] at hin4
  obtain ⟨Z, z1, z2⟩ := hin4.res
  have HZ1 := Lib.hid z1
  have HZ2 := Lib.hid z2
  have hld := hin4.told HSZC4.out HFS.out
  have HIN4 := Lib.hid hin4
  clear hin4 z1 z2 c3 fr3
  go_wp2_with (first
    | (refine wpList_load_row rfl 32 (.tmp 2) rfl bx rfl 32 C4 (0, 0) (.struct fs) HIN4.out.own HFS.out rfl (by rw [HSZC4.out]; exact info_refA) ?_)
    | (refine wpList_store_row rfl 32 (.tmp 4) (.tmp 24) rfl bz C4 rfl rfl 32 Z HZ2.out (by rw [HSZC4.out]; exact info_refA) (by rw [HZ1.out, HSZC4.out]) HONEC4.out ?_))
  exact bodyPost_ret (v := .tuple #[.agg C4, .int .u64 0, .int .i64 23]) (by simp [results, Try.results48, asAddr, hld]) rfl ⟨by rw [HC4.out], HIN4.out.end_⟩
set_option maxRecDepth 100000 in
set_option maxHeartbeats 4000000 in
theorem refGet_blkout (A : Ar) (f0 f1 f2 f3 f4 f5 f6 f7 f8 : Int) (v : Value) (l : List RB) (w : World) (h : BlksAt w v l) (hl : l.length ≤ 70000) (hf : A.faults ≤ 100000000) (blk i : Int) (hne : blk ≠ 0) (j : Nat) (y : RB) (hy : l[j]? = some y) (hyk : y.1.h = blk) (hu : ∀ i z, l[i]? = some z → z.1.h = blk → i = j) (ho : i < 0 ∨ (y.1.ws.length : Int) ≤ i) :
    Calls Try.prog 48 #[.agg (refCells A f0 f1 f2 f3 f4 f5 f6 f7 f8 v), .agg #[.int .u64 blk, .int .i64 i]] w fun e w' => e = .returned (.tuple #[.agg (refCells A.miss f0 f1 f2 f3 f4 f5 f6 f7 f8 v), .int .u64 0, .int .i64 24]) ∧ Frm.Turn [] w w' := by
  obtain ⟨va, vc, rfl⟩ := h.form
  obtain ⟨fs, hfs⟩ := struct_of under_refA
  have HB := Lib.hid h
  have HY := Lib.hid hy
  have HAT := Lib.hid (fun W (hT : Frm.Turn [] w W) => refAt_yes A f0 f1 f2 f3 f4 f5 f6 f7 f8 _ l W (h.step hT) hl blk j y hy hyk hu)
  have hjq : j < l.length := (List.getElem?_eq_some_iff.1 hy).1
  obtain ⟨q, HQ⟩ : ∃ q, Hid (q = l.length) := ⟨_, Lib.hid rfl⟩
  rw [← HQ.out] at HAT hjq ⊢
  obtain ⟨CS, HCS⟩ : ∃ CS, Hid (CS = refCells A f0 f1 f2 f3 f4 f5 f6 f7 f8 (.slice va q vc)) := ⟨_, Lib.hid rfl⟩
  have HSZCS : Hid (CS.size = 20) := Lib.hid (by rw [HCS.out]; rfl)
  have HONECS : Hid (CS.all (·.oneCell') = true) := Lib.hid (by rw [HCS.out]; exact refCells_one _ _ _ _ _ _ _ _ _ _ _ _ _)
  have HFS := Lib.hid hfs
  rw [show refCells A f0 f1 f2 f3 f4 f5 f6 f7 f8 (.slice va q vc) = CS from HCS.out.symm]
  rw [← HCS.out] at HAT
  clear hy hyk hu
  clear h hfs hl
  go_enter Try.func48, Try.ntmps48
  go_upto_region 1 with fail
  obtain ⟨hin, hbq⟩ := RefIn.start3 w CS #[.int .u64 blk, .int .i64 i] #[.int .i64 0, .int .i64 0, .int .i64 0, .int .i64 0, .int .u64 0, .int .u64 0, .int .u64 0, .int .u64 0, .int .u64 0, .int .u64 0, .int .u64 0, .int .u64 0, .int .u64 0, .slice none 0 0, .int .i64 0, .int .i64 0, .int .i64 0, .int .i64 0, .int .i64 0, .int .i64 0] rfl
  obtain ⟨bx, Hx⟩ : ∃ bx, Hid (bx = w.heap.size) := ⟨_, Lib.hid rfl⟩
  obtain ⟨bq, Hq⟩ : ∃ bq, Hid (bq = w.heap.size + 1) := ⟨_, Lib.hid rfl⟩
  obtain ⟨bz, Hz⟩ : ∃ bz, Hid (bz = w.heap.size + 2) := ⟨_, Lib.hid rfl⟩
  rw [← Hz.out, ← Hx.out] at hin
  rw [← Hq.out] at hbq
  rw [← Hz.out, ← Hq.out, ← Hx.out]
  generalize ((w.alloc (.cells CS 32)).alloc _).alloc _ = W1 at hin hbq ⊢
  have HIN := Lib.hid hin
  have HT1 := Lib.hid hin.turn
  have HBQ := Lib.hid hbq
  have a0 : W1.cell? ⟨bq, 0, none⟩ = some (.int .u64 blk) := Frm.cell_row _ _ _ _ _ _ hbq
  have a1 : W1.cell? ⟨bq, 1, none⟩ = some (.int .i64 i) := Frm.cell_row _ _ _ _ _ _ hbq
  clear hin hbq
  have hb0 : (blk != 0) = true := by simpa using hne
  have hb1 : (blk == 0) = false := by simpa using hne
  go_upto_region 4 with (first
    | (refine wpList_load_row rfl 32 (.tmp 2) rfl bx rfl 32 CS (0, 0) (.struct fs) HIN.out.own HFS.out rfl (by rw [HSZCS.out]; exact info_refA) ?_)
    | (go_at_call 60; (with_reducible refine (HAT.out _ HT1.out).mono ?_); rintro e w2 ⟨rfl, hT⟩; have HT2 := Lib.hid hT; clear hT))
  have HIN2 := Lib.hid (HIN.out.step HT2.out (by simp) (by simp) (by simp))
  have HBQ2 := Lib.hid (HT2.out.keep HBQ.out (by simp))
  clear a0 a1
  have a0 : w2.cell? ⟨bq, 0, none⟩ = some (.int .u64 blk) := Frm.cell_row _ _ _ _ _ _ HBQ2.out
  have a1 : w2.cell? ⟨bq, 1, none⟩ = some (.int .i64 i) := Frm.cell_row _ _ _ _ _ _ HBQ2.out
  obtain ⟨g, hva, hcell⟩ : ∃ g, va = some ⟨g, 0, none⟩ ∧ ∀ j u, (rbCells l)[j]? = some u → w.cell? ⟨g, j, none⟩ = some u := by
    rcases HB.out.head with ⟨_, e2⟩ | ⟨g, c', e1, _, _, hc⟩
    · have := HY.out; rw [e2] at this; simp at this
    · simp only [Value.slice.injEq] at e1
      exact ⟨g, e1.1, hc⟩
  subst hva
  have hcB := HIN2.out.turn.cell (hcell _ _ (rbCells_get l j y HY.out).2) (by simp)
  obtain ⟨ya, yc, hyf, hyw⟩ : ∃ ya yc, y.2 = .slice ya y.1.ws.length yc ∧ (0 < y.1.ws.length → ∃ ad, ya = some ad ∧ ∀ j u, (u64s y.1.ws)[j]? = some u → w.cell? (ad.add j) = some u) := by
    rcases HB.out.rows y (List.mem_of_getElem? HY.out) with ⟨e1, e2⟩ | ⟨a, c, e1, hc⟩
    · exact ⟨none, 0, by rw [e1, e2]; rfl, fun h => by rw [e2] at h; simp at h⟩
    · exact ⟨_, _, e1, fun _ => ⟨a, rfl, hc⟩⟩
  rw [hyf] at hcB
  have HYW := Lib.hid hyw
  have c13 : w2.cell? ⟨bx, 13, none⟩ = some (.slice (some ⟨g, 0, none⟩) q vc) := by rw [HIN2.out.cell, HCS.out]; rfl
  have hj0 : decide ((j : Int) < 0) = false := by simp
  clear hcell hyf hyw
  obtain ⟨n, HN⟩ : ∃ n, Hid (n = y.1.ws.length) := ⟨_, Lib.hid rfl⟩
  rw [← HN.out] at hcB ho
  obtain ⟨ws, HWS⟩ : ∃ ws, Hid (ws = y.1.ws) := ⟨_, Lib.hid rfl⟩
  have r1 : decide (i < 0) = true ∨ (decide (i < 0) = false ∧ decide ((n : Int) ≤ i) = true) := by simp; omega
  clear ho
  rcases r1 with r1 | ⟨r1, r2⟩
  · have c3 : w2.cell? ⟨bx, 3, none⟩ = some (.int .i64 A.faults) := by rw [HIN2.out.cell, HCS.out]; rfl
    have fr3 := HIN2.out.thaw 3
    go_upto_region 10 with fail
    have hin4 := HIN2.out.set 3 (.int .i64 ((A.faults : Int) + 1))
    generalize w2.setCell ⟨bx, 3, none⟩ (.int .i64 ((A.faults : Int) + 1)) = W4 at hin4 ⊢
    rw [HCS.out, miss_cells] at hin4
    obtain ⟨C4, HC4⟩ : ∃ C, Hid (C = refCells A.miss f0 f1 f2 f3 f4 f5 f6 f7 f8 (.slice (some ⟨g, 0, none⟩) q vc)) := ⟨_, Lib.hid rfl⟩
    have HSZC4 : Hid (C4.size = 20) := Lib.hid (by rw [HC4.out]; rfl)
    have HONEC4 : Hid (C4.all (·.oneCell') = true) := Lib.hid (by rw [HC4.out]; exact refCells_one _ _ _ _ _ _ _ _ _ _ _ _ _)
    rw [← HC4.out] at hin4
    obtain ⟨Z, z1, z2⟩ := hin4.res
    have HZ1 := Lib.hid z1
    have HZ2 := Lib.hid z2
    have hld := hin4.told HSZC4.out HFS.out
    have HIN4 := Lib.hid hin4
    clear hin4 z1 z2 c3 fr3
    go_wp2_with (first
      | (refine wpList_load_row rfl 32 (.tmp 2) rfl bx rfl 32 C4 (0, 0) (.struct fs) HIN4.out.own HFS.out rfl (by rw [HSZC4.out]; exact info_refA) ?_)
      | (refine wpList_store_row rfl 32 (.tmp 4) (.tmp 45) rfl bz C4 rfl rfl 32 Z HZ2.out (by rw [HSZC4.out]; exact info_refA) (by rw [HZ1.out, HSZC4.out]) HONEC4.out ?_))
    exact bodyPost_ret (v := .tuple #[.agg C4, .int .u64 0, .int .i64 24]) (by simp [results, Try.results48, asAddr, hld]) rfl ⟨by rw [HC4.out], HIN4.out.end_⟩
  · have c3 : w2.cell? ⟨bx, 3, none⟩ = some (.int .i64 A.faults) := by rw [HIN2.out.cell, HCS.out]; rfl
    have fr3 := HIN2.out.thaw 3
    go_upto_region 10 with fail
    have hin4 := HIN2.out.set 3 (.int .i64 ((A.faults : Int) + 1))
    generalize w2.setCell ⟨bx, 3, none⟩ (.int .i64 ((A.faults : Int) + 1)) = W4 at hin4 ⊢
    rw [HCS.out, miss_cells] at hin4
    obtain ⟨C4, HC4⟩ : ∃ C, Hid (C = refCells A.miss f0 f1 f2 f3 f4 f5 f6 f7 f8 (.slice (some ⟨g, 0, none⟩) q vc)) := ⟨_, Lib.hid rfl⟩
    have HSZC4 : Hid (C4.size = 20) := Lib.hid (by rw [HC4.out]; rfl)
    have HONEC4 : Hid (C4.all (·.oneCell') = true) := Lib.hid (by rw [HC4.out]; exact refCells_one _ _ _ _ _ _ _ _ _ _ _ _ _)
    rw [← HC4.out] at hin4
    obtain ⟨Z, z1, z2⟩ := hin4.res
    have HZ1 := Lib.hid z1
    have HZ2 := Lib.hid z2
    have hld := hin4.told HSZC4.out HFS.out
    have HIN4 := Lib.hid hin4
    clear hin4 z1 z2 c3 fr3
    go_wp2_with (first
      | (refine wpList_load_row rfl 32 (.tmp 2) rfl bx rfl 32 C4 (0, 0) (.struct fs) HIN4.out.own HFS.out rfl (by rw [HSZC4.out]; exact info_refA) ?_)
      | (refine wpList_store_row rfl 32 (.tmp 4) (.tmp 45) rfl bz C4 rfl rfl 32 Z HZ2.out (by rw [HSZC4.out]; exact info_refA) (by rw [HZ1.out, HSZC4.out]) HONEC4.out ?_))
    exact bodyPost_ret (v := .tuple #[.agg C4, .int .u64 0, .int .i64 24]) (by simp [results, Try.results48, asAddr, hld]) rfl ⟨by rw [HC4.out], HIN4.out.end_⟩
set_option maxRecDepth 100000 in
set_option maxHeartbeats 4000000 in
theorem refGet_blkin (A : Ar) (f0 f1 f2 f3 f4 f5 f6 f7 f8 : Int) (v : Value) (l : List RB) (w : World) (h : BlksAt w v l) (hl : l.length ≤ 70000) (hf : A.faults ≤ 100000000) (blk i : Int) (hne : blk ≠ 0) (j : Nat) (y : RB) (hy : l[j]? = some y) (hyk : y.1.h = blk) (hu : ∀ i z, l[i]? = some z → z.1.h = blk → i = j) (hi0 : 0 ≤ i) (hi1 : i < (y.1.ws.length : Int)) :
    Calls Try.prog 48 #[.agg (refCells A f0 f1 f2 f3 f4 f5 f6 f7 f8 v), .agg #[.int .u64 blk, .int .i64 i]] w fun e w' => e = .returned (.tuple #[.agg (refCells A f0 f1 f2 f3 f4 f5 f6 f7 f8 v), .int .u64 (y.1.ws.getD i.toNat 0), .int .i64 0]) ∧ Frm.Turn [] w w' := by
  obtain ⟨va, vc, rfl⟩ := h.form
  obtain ⟨fs, hfs⟩ := struct_of under_refA
  have HB := Lib.hid h
  have HY := Lib.hid hy
  have HAT := Lib.hid (fun W (hT : Frm.Turn [] w W) => refAt_yes A f0 f1 f2 f3 f4 f5 f6 f7 f8 _ l W (h.step hT) hl blk j y hy hyk hu)
  have hjq : j < l.length := (List.getElem?_eq_some_iff.1 hy).1
  obtain ⟨q, HQ⟩ : ∃ q, Hid (q = l.length) := ⟨_, Lib.hid rfl⟩
  rw [← HQ.out] at HAT hjq ⊢
  obtain ⟨CS, HCS⟩ : ∃ CS, Hid (CS = refCells A f0 f1 f2 f3 f4 f5 f6 f7 f8 (.slice va q vc)) := ⟨_, Lib.hid rfl⟩
  have HSZCS : Hid (CS.size = 20) := Lib.hid (by rw [HCS.out]; rfl)
  have HONECS : Hid (CS.all (·.oneCell') = true) := Lib.hid (by rw [HCS.out]; exact refCells_one _ _ _ _ _ _ _ _ _ _ _ _ _)
  have HFS := Lib.hid hfs
  rw [show refCells A f0 f1 f2 f3 f4 f5 f6 f7 f8 (.slice va q vc) = CS from HCS.out.symm]
  rw [← HCS.out] at HAT
  clear hy hyk hu
  clear h hfs hl
  obtain ⟨x, HX⟩ : ∃ x, Hid (x = y.1.ws.getD i.toNat 0) := ⟨_, Lib.hid rfl⟩
  rw [← HX.out]
  go_enter Try.func48, Try.ntmps48
  go_upto_region 1 with fail
  obtain ⟨hin, hbq⟩ := RefIn.start3 w CS #[.int .u64 blk, .int .i64 i] #[.int .i64 0, .int .i64 0, .int .i64 0, .int .i64 0, .int .u64 0, .int .u64 0, .int .u64 0, .int .u64 0, .int .u64 0, .int .u64 0, .int .u64 0, .int .u64 0, .int .u64 0, .slice none 0 0, .int .i64 0, .int .i64 0, .int .i64 0, .int .i64 0, .int .i64 0, .int .i64 0] rfl
  obtain ⟨bx, Hx⟩ : ∃ bx, Hid (bx = w.heap.size) := ⟨_, Lib.hid rfl⟩
  obtain ⟨bq, Hq⟩ : ∃ bq, Hid (bq = w.heap.size + 1) := ⟨_, Lib.hid rfl⟩
  obtain ⟨bz, Hz⟩ : ∃ bz, Hid (bz = w.heap.size + 2) := ⟨_, Lib.hid rfl⟩
  rw [← Hz.out, ← Hx.out] at hin
  rw [← Hq.out] at hbq
  rw [← Hz.out, ← Hq.out, ← Hx.out]
  generalize ((w.alloc (.cells CS 32)).alloc _).alloc _ = W1 at hin hbq ⊢
  have HIN := Lib.hid hin
  have HT1 := Lib.hid hin.turn
  have HBQ := Lib.hid hbq
  have a0 : W1.cell? ⟨bq, 0, none⟩ = some (.int .u64 blk) := Frm.cell_row _ _ _ _ _ _ hbq
  have a1 : W1.cell? ⟨bq, 1, none⟩ = some (.int .i64 i) := Frm.cell_row _ _ _ _ _ _ hbq
  clear hin hbq
  have hb0 : (blk != 0) = true := by simpa using hne
  have hb1 : (blk == 0) = false := by simpa using hne
  go_upto_region 4 with (first
    | (refine wpList_load_row rfl 32 (.tmp 2) rfl bx rfl 32 CS (0, 0) (.struct fs) HIN.out.own HFS.out rfl (by rw [HSZCS.out]; exact info_refA) ?_)
    | (go_at_call 60; (with_reducible refine (HAT.out _ HT1.out).mono ?_); rintro e w2 ⟨rfl, hT⟩; have HT2 := Lib.hid hT; clear hT))
  have HIN2 := Lib.hid (HIN.out.step HT2.out (by simp) (by simp) (by simp))
  have HBQ2 := Lib.hid (HT2.out.keep HBQ.out (by simp))
  clear a0 a1
  have a0 : w2.cell? ⟨bq, 0, none⟩ = some (.int .u64 blk) := Frm.cell_row _ _ _ _ _ _ HBQ2.out
  have a1 : w2.cell? ⟨bq, 1, none⟩ = some (.int .i64 i) := Frm.cell_row _ _ _ _ _ _ HBQ2.out
  obtain ⟨g, hva, hcell⟩ : ∃ g, va = some ⟨g, 0, none⟩ ∧ ∀ j u, (rbCells l)[j]? = some u → w.cell? ⟨g, j, none⟩ = some u := by
    rcases HB.out.head with ⟨_, e2⟩ | ⟨g, c', e1, _, _, hc⟩
    · have := HY.out; rw [e2] at this; simp at this
    · simp only [Value.slice.injEq] at e1
      exact ⟨g, e1.1, hc⟩
  subst hva
  have hcB := HIN2.out.turn.cell (hcell _ _ (rbCells_get l j y HY.out).2) (by simp)
  obtain ⟨ya, yc, hyf, hyw⟩ : ∃ ya yc, y.2 = .slice ya y.1.ws.length yc ∧ (0 < y.1.ws.length → ∃ ad, ya = some ad ∧ ∀ j u, (u64s y.1.ws)[j]? = some u → w.cell? (ad.add j) = some u) := by
    rcases HB.out.rows y (List.mem_of_getElem? HY.out) with ⟨e1, e2⟩ | ⟨a, c, e1, hc⟩
    · exact ⟨none, 0, by rw [e1, e2]; rfl, fun h => by rw [e2] at h; simp at h⟩
    · exact ⟨_, _, e1, fun _ => ⟨a, rfl, hc⟩⟩
  rw [hyf] at hcB
  have HYW := Lib.hid hyw
  have c13 : w2.cell? ⟨bx, 13, none⟩ = some (.slice (some ⟨g, 0, none⟩) q vc) := by rw [HIN2.out.cell, HCS.out]; rfl
  have hj0 : decide ((j : Int) < 0) = false := by simp
  have hpos : 0 < y.1.ws.length := by omega
  obtain ⟨ad, hya, hwc⟩ := hyw hpos
  subst hya
  have hmm : i.toNat < y.1.ws.length := by omega
  have hxw := hwc _ _ (word_at hmm)
  rw [← HX.out] at hxw
  have hxb := cell_blt hxw
  have HXW : Hid (w2.drew.cell? (ad.add i.toNat) = some (.int .u64 x)) := Lib.hid (HIN2.out.turn.cell hxw (by simp))
  have HXZ : Hid ((ad.add i.toNat).block ∉ [bz]) := Lib.hid (by have := HIN2.out.nz; simp; omega)
  have HQZ : Hid ((⟨bq, 1, none⟩ : Addr).block ∉ [bz]) := Lib.hid (by rw [Hq.out, Hz.out]; simp)
  clear hcell hyf hyw hwc hxw hxb hmm hpos
  obtain ⟨n, HN⟩ : ∃ n, Hid (n = y.1.ws.length) := ⟨_, Lib.hid rfl⟩
  rw [← HN.out] at hcB hi1
  obtain ⟨ws, HWS⟩ : ∃ ws, Hid (ws = y.1.ws) := ⟨_, Lib.hid rfl⟩
  have r1 : decide (i < 0) = false := by simp; omega
  have r2 : decide ((n : Int) ≤ i) = false := by simp; omega
  go_upto_region 11 with fail
  have HD2 : Hid (∃ Z : Array Value, Z.size = 20 ∧ w2.drew.heap[bz]? = some (.cells Z 32 (0, 0))) := Lib.hid HIN2.out.res
  obtain ⟨Z, z1, z2⟩ := HD2.out
  have HZ1 := Lib.hid z1
  have HZ2 := Lib.hid z2
  clear z1 z2
  have HINd : Hid (RefIn w bx bz CS w2.drew) := Lib.hid (HIN2.out.step ((Frm.Turn.refl [] w2).drew) (by simp) (by simp) (by simp))
  have hld := HINd.out.told HSZCS.out HFS.out
  have HI20 : Hid ((Try.prog.info? 32).map (·.size) = some CS.toList.length) := Lib.hid (by rw [Array.length_toList, HSZCS.out]; exact info_refA)
  have HS : Hid (∀ W, Frm.Turn [bz] w2.drew W → (W.rangeAt bx 0 CS.toList ∧ W.cell? ⟨bq, 1, none⟩ = some (.int .i64 i) ∧ W.cell? (ad.add i.toNat) = some (.int .u64 x))) := Lib.hid fun W hT => by
    refine ⟨fun j u hu => ?_, hT.cell a1 HQZ.out, hT.cell HXW.out HXZ.out⟩
    rw [Nat.zero_add]
    refine hT.cell ?_ (by simp; exact HIN2.out.ne)
    rw [HINd.out.cell]
    simpa using hu
  clear a0 a1
  refine wp_region_held_drew (S := fun w' => w'.rangeAt bx 0 CS.toList ∧ w'.cell? ⟨bq, 1, none⟩ = some (.int .i64 i) ∧ w'.cell? (ad.add i.toNat) = some (.int .u64 x)) (by kernel_rfl) ?_ (fun hHeld => ?_)
  · exact HS.out _ (Frm.Turn.refl _ _)
  refine wpAnyH_take (i := 0) (v := _) rfl (by kernel_rfl) (by kernel_rfl) (by kernel_rfl) (fun _ _ _ h => h)
          (yieldsIf_load_mid (by rfl) _ _ rfl bx 0 rfl CS.toList _ (fun w hw => hw.1) HFS.out rfl HI20.out) (by assumption) ?_
  simp only [Act.put, List.setIfInBounds_toArray, List.set_cons_zero, List.set_cons_succ, Array.toArray_toList]
  refine wpAnyH_take (i := 1) (v := ?_) rfl (by kernel_rfl) (by kernel_rfl) (by kernel_rfl) (fun _ _ _ h => h) (Or.inl ⟨by rfl, ?_⟩) (by assumption) ?_
  rotate_left
  · (intro w hSw; (try dsimp only at hSw); go_simp; try with_reducible rfl)
  simp only [Act.put, List.getElem_toArray, List.getElem_cons_succ, List.getElem_cons_zero, List.setIfInBounds_toArray, List.set_cons_zero, List.set_cons_succ]
  refine wpAnyH_take (i := 2) (v := ?_) rfl (by kernel_rfl) (by kernel_rfl) (by kernel_rfl) (fun _ _ _ h => h) (Or.inl ⟨by rfl, ?_⟩) (by assumption) ?_
  rotate_left
  · (intro w hSw; (try dsimp only at hSw); go_simp; try with_reducible rfl)
  simp only [Act.put, List.getElem_toArray, List.getElem_cons_succ, List.getElem_cons_zero, List.setIfInBounds_toArray, List.set_cons_zero, List.set_cons_succ]
  refine wpAnyH_take (i := 3) (v := ?_) rfl (by kernel_rfl) (by kernel_rfl) (by kernel_rfl) (fun _ _ _ h => h) (Or.inl ⟨by rfl, ?_⟩) (by assumption) ?_
  rotate_left
  · (intro w hSw; (try dsimp only at hSw); go_simp; try with_reducible rfl)
  simp only [Act.put, List.getElem_toArray, List.getElem_cons_succ, List.getElem_cons_zero, List.setIfInBounds_toArray, List.set_cons_zero, List.set_cons_succ]
  refine wpAnyH_take (i := 4) (v := ?_) rfl (by kernel_rfl) (by kernel_rfl) (by kernel_rfl) (fun _ _ _ h => h) (Or.inl ⟨by rfl, ?_⟩) (by assumption) ?_
  rotate_left
  · (intro w hSw; (try dsimp only at hSw); go_simp; try with_reducible rfl)
  simp only [Act.put, List.getElem_toArray, List.getElem_cons_succ, List.getElem_cons_zero, List.setIfInBounds_toArray, List.set_cons_zero, List.set_cons_succ]
  refine wpAnyH_take (i := 5) (v := ?_) rfl (by kernel_rfl) (by kernel_rfl) (by kernel_rfl) (fun _ _ _ h => h) (Or.inl ⟨by rfl, ?_⟩) (by assumption) ?_
  rotate_left
  · (intro w hSw; (try dsimp only at hSw); go_simp; try with_reducible rfl)
  simp only [Act.put, List.getElem_toArray, List.getElem_cons_succ, List.getElem_cons_zero, List.setIfInBounds_toArray, List.set_cons_zero, List.set_cons_succ]
  refine wpAnyH_ready (rs := [6]) (by kernel_rfl) (by simp) ?_
  refine AllReadyH.cons rfl (fun K hK => ?_) AllReadyH.nil
  simp only [List.getElem_toArray, List.getElem_cons_succ, List.getElem_cons_zero]
  refine wp_store_row 32 (.tmp 4) (.tmp 46) rfl bz CS rfl rfl 32 Z HZ2.out (by rw [HSZCS.out]; exact info_refA) (by rw [HZ1.out, HSZCS.out]) HONECS.out ?_
  refine hK _ _ (HS.out _ (setRow_turn (Frm.Turn.refl [bz] _) (.inl (by simp)) CS)) (fun hHeld => ?_)
  try simp only [Act.put, List.getElem_toArray, List.getElem_cons_succ, List.getElem_cons_zero, List.setIfInBounds_toArray, List.set_cons_zero, List.set_cons_succ]
  refine wpAnyH_take (i := 7) (v := ?_) rfl (by kernel_rfl) (by kernel_rfl) (by kernel_rfl) (fun _ _ _ h => h) (Or.inl ⟨by rfl, ?_⟩) (by assumption) ?_
  rotate_left
  · (intro w hSw; (try dsimp only at hSw); go_simp; try with_reducible rfl)
  simp only [Act.put, List.getElem_toArray, List.getElem_cons_succ, List.getElem_cons_zero, List.setIfInBounds_toArray, List.set_cons_zero, List.set_cons_succ]
  refine wpAnyH_take (i := 8) (v := ?_) rfl (by kernel_rfl) (by kernel_rfl) (by kernel_rfl) (fun _ _ _ h => h) (Or.inl ⟨by rfl, ?_⟩) (by assumption) ?_
  rotate_left
  · (intro w hSw; (try dsimp only at hSw); go_simp; try with_reducible rfl)
  simp only [Act.put, List.getElem_toArray, List.getElem_cons_succ, List.getElem_cons_zero, List.setIfInBounds_toArray, List.set_cons_zero, List.set_cons_succ]
  refine wpAnyH_done (by kernel_rfl) ?_ _
  go_wp2_with fail
  exact bodyPost_ret (v := .tuple #[.agg CS, .int .u64 x, .int .i64 0]) (by simp [results, Try.results48, asAddr, hld, Act.put]) rfl ⟨rfl, HINd.out.end_⟩
set_option maxRecDepth 100000 in
set_option maxHeartbeats 4000000 in
theorem refGet_fixout (A : Ar) (f0 f1 f2 f3 f4 f5 f6 f7 f8 : Int) (v : Value) (l : List RB) (w : World) (h : BlksAt w v l) (hl : l.length ≤ 70000) (hf : A.faults ≤ 100000000) (blk i : Int) (hz : blk = 0) (ho : i < 0 ∨ 9 ≤ i) :
    Calls Try.prog 48 #[.agg (refCells A f0 f1 f2 f3 f4 f5 f6 f7 f8 v), .agg #[.int .u64 blk, .int .i64 i]] w fun e w' => e = .returned (.tuple #[.agg (refCells A.miss f0 f1 f2 f3 f4 f5 f6 f7 f8 v), .int .u64 0, .int .i64 24]) ∧ Frm.Turn [] w w' := by
  obtain ⟨va, vc, rfl⟩ := h.form
  obtain ⟨fs, hfs⟩ := struct_of under_refA
  obtain ⟨q, HQ⟩ : ∃ q, Hid (q = l.length) := ⟨_, Lib.hid rfl⟩
  rw [← HQ.out] at ⊢
  obtain ⟨CS, HCS⟩ : ∃ CS, Hid (CS = refCells A f0 f1 f2 f3 f4 f5 f6 f7 f8 (.slice va q vc)) := ⟨_, Lib.hid rfl⟩
  have HSZCS : Hid (CS.size = 20) := Lib.hid (by rw [HCS.out]; rfl)
  have HONECS : Hid (CS.all (·.oneCell') = true) := Lib.hid (by rw [HCS.out]; exact refCells_one _ _ _ _ _ _ _ _ _ _ _ _ _)
  have HFS := Lib.hid hfs
  rw [show refCells A f0 f1 f2 f3 f4 f5 f6 f7 f8 (.slice va q vc) = CS from HCS.out.symm]
  clear h hfs hl
  have hb0 : (blk != 0) = false := by simp [hz]
  have hb1 : (blk == 0) = true := by simp [hz]
  clear hz
  go_enter Try.func48, Try.ntmps48
  go_upto_region 1 with fail
  obtain ⟨hin, hbq⟩ := RefIn.start3 w CS #[.int .u64 blk, .int .i64 i] #[.int .i64 0, .int .i64 0, .int .i64 0, .int .i64 0, .int .u64 0, .int .u64 0, .int .u64 0, .int .u64 0, .int .u64 0, .int .u64 0, .int .u64 0, .int .u64 0, .int .u64 0, .slice none 0 0, .int .i64 0, .int .i64 0, .int .i64 0, .int .i64 0, .int .i64 0, .int .i64 0] rfl
  obtain ⟨bx, Hx⟩ : ∃ bx, Hid (bx = w.heap.size) := ⟨_, Lib.hid rfl⟩
  obtain ⟨bq, Hq⟩ : ∃ bq, Hid (bq = w.heap.size + 1) := ⟨_, Lib.hid rfl⟩
  obtain ⟨bz, Hz⟩ : ∃ bz, Hid (bz = w.heap.size + 2) := ⟨_, Lib.hid rfl⟩
  rw [← Hz.out, ← Hx.out] at hin
  rw [← Hq.out] at hbq
  rw [← Hz.out, ← Hq.out, ← Hx.out]
  generalize ((w.alloc (.cells CS 32)).alloc _).alloc _ = W1 at hin hbq ⊢
  have HIN := Lib.hid hin
  have HT1 := Lib.hid hin.turn
  have HBQ := Lib.hid hbq
  have a0 : W1.cell? ⟨bq, 0, none⟩ = some (.int .u64 blk) := Frm.cell_row _ _ _ _ _ _ hbq
  have a1 : W1.cell? ⟨bq, 1, none⟩ = some (.int .i64 i) := Frm.cell_row _ _ _ _ _ _ hbq
  clear hin hbq
  obtain ⟨w2, Hw2⟩ : ∃ w2, Hid (w2 = W1) := ⟨_, Lib.hid rfl⟩
  rw [← Hw2.out] at HIN HT1 HBQ a0 a1 ⊢
  have HIN2 := Lib.hid HIN.out
  have r1 : decide (i < 0) = true ∨ (decide (i < 0) = false ∧ decide ((9 : Int) ≤ i) = true) := by simp; omega
  clear ho
  rcases r1 with r1 | ⟨r1, r2⟩
  · have c3 : w2.cell? ⟨bx, 3, none⟩ = some (.int .i64 A.faults) := by rw [HIN2.out.cell, HCS.out]; rfl
    have fr3 := HIN2.out.thaw 3
    go_upto_region 10 with fail
    have hin4 := HIN2.out.set 3 (.int .i64 ((A.faults : Int) + 1))
    generalize w2.setCell ⟨bx, 3, none⟩ (.int .i64 ((A.faults : Int) + 1)) = W4 at hin4 ⊢
    rw [HCS.out, miss_cells] at hin4
    obtain ⟨C4, HC4⟩ : ∃ C, Hid (C = refCells A.miss f0 f1 f2 f3 f4 f5 f6 f7 f8 (.slice va q vc)) := ⟨_, Lib.hid rfl⟩
    have HSZC4 : Hid (C4.size = 20) := Lib.hid (by rw [HC4.out]; rfl)
    have HONEC4 : Hid (C4.all (·.oneCell') = true) := Lib.hid (by rw [HC4.out]; exact refCells_one _ _ _ _ _ _ _ _ _ _ _ _ _)
    rw [← HC4.out] at hin4
    obtain ⟨Z, z1, z2⟩ := hin4.res
    have HZ1 := Lib.hid z1
    have HZ2 := Lib.hid z2
    have hld := hin4.told HSZC4.out HFS.out
    have HIN4 := Lib.hid hin4
    clear hin4 z1 z2 c3 fr3
    go_wp2_with (first
      | (refine wpList_load_row rfl 32 (.tmp 2) rfl bx rfl 32 C4 (0, 0) (.struct fs) HIN4.out.own HFS.out rfl (by rw [HSZC4.out]; exact info_refA) ?_)
      | (refine wpList_store_row rfl 32 (.tmp 4) (.tmp 45) rfl bz C4 rfl rfl 32 Z HZ2.out (by rw [HSZC4.out]; exact info_refA) (by rw [HZ1.out, HSZC4.out]) HONEC4.out ?_))
    exact bodyPost_ret (v := .tuple #[.agg C4, .int .u64 0, .int .i64 24]) (by simp [results, Try.results48, asAddr, hld]) rfl ⟨by rw [HC4.out], HIN4.out.end_⟩
  · have c3 : w2.cell? ⟨bx, 3, none⟩ = some (.int .i64 A.faults) := by rw [HIN2.out.cell, HCS.out]; rfl
    have fr3 := HIN2.out.thaw 3
    go_upto_region 10 with fail
    have hin4 := HIN2.out.set 3 (.int .i64 ((A.faults : Int) + 1))
    generalize w2.setCell ⟨bx, 3, none⟩ (.int .i64 ((A.faults : Int) + 1)) = W4 at hin4 ⊢
    rw [HCS.out, miss_cells] at hin4
    obtain ⟨C4, HC4⟩ : ∃ C, Hid (C = refCells A.miss f0 f1 f2 f3 f4 f5 f6 f7 f8 (.slice va q vc)) := ⟨_, Lib.hid rfl⟩
    have HSZC4 : Hid (C4.size = 20) := Lib.hid (by rw [HC4.out]; rfl)
    have HONEC4 : Hid (C4.all (·.oneCell') = true) := Lib.hid (by rw [HC4.out]; exact refCells_one _ _ _ _ _ _ _ _ _ _ _ _ _)
    rw [← HC4.out] at hin4
    obtain ⟨Z, z1, z2⟩ := hin4.res
    have HZ1 := Lib.hid z1
    have HZ2 := Lib.hid z2
    have hld := hin4.told HSZC4.out HFS.out
    have HIN4 := Lib.hid hin4
    clear hin4 z1 z2 c3 fr3
    go_wp2_with (first
      | (refine wpList_load_row rfl 32 (.tmp 2) rfl bx rfl 32 C4 (0, 0) (.struct fs) HIN4.out.own HFS.out rfl (by rw [HSZC4.out]; exact info_refA) ?_)
      | (refine wpList_store_row rfl 32 (.tmp 4) (.tmp 45) rfl bz C4 rfl rfl 32 Z HZ2.out (by rw [HSZC4.out]; exact info_refA) (by rw [HZ1.out, HSZC4.out]) HONEC4.out ?_))
    exact bodyPost_ret (v := .tuple #[.agg C4, .int .u64 0, .int .i64 24]) (by simp [results, Try.results48, asAddr, hld]) rfl ⟨by rw [HC4.out], HIN4.out.end_⟩
set_option maxRecDepth 100000 in
set_option maxHeartbeats 4000000 in
theorem refGet_fixin (A : Ar) (f0 f1 f2 f3 f4 f5 f6 f7 f8 : Int) (v : Value) (l : List RB) (w : World) (h : BlksAt w v l) (hl : l.length ≤ 70000) (hf : A.faults ≤ 100000000) (blk i : Int) (hz : blk = 0) (hi0 : 0 ≤ i) (hi1 : i < 9) :
    Calls Try.prog 48 #[.agg (refCells A f0 f1 f2 f3 f4 f5 f6 f7 f8 v), .agg #[.int .u64 blk, .int .i64 i]] w fun e w' => e = .returned (.tuple #[.agg (refCells A f0 f1 f2 f3 f4 f5 f6 f7 f8 v), .int .u64 ([f0, f1, f2, f3, f4, f5, f6, f7, f8].getD i.toNat 0), .int .i64 0]) ∧ Frm.Turn [] w w' := by
  obtain ⟨va, vc, rfl⟩ := h.form
  obtain ⟨fs, hfs⟩ := struct_of under_refA
  obtain ⟨q, HQ⟩ : ∃ q, Hid (q = l.length) := ⟨_, Lib.hid rfl⟩
  rw [← HQ.out] at ⊢
  obtain ⟨CS, HCS⟩ : ∃ CS, Hid (CS = refCells A f0 f1 f2 f3 f4 f5 f6 f7 f8 (.slice va q vc)) := ⟨_, Lib.hid rfl⟩
  have HSZCS : Hid (CS.size = 20) := Lib.hid (by rw [HCS.out]; rfl)
  have HONECS : Hid (CS.all (·.oneCell') = true) := Lib.hid (by rw [HCS.out]; exact refCells_one _ _ _ _ _ _ _ _ _ _ _ _ _)
  have HFS := Lib.hid hfs
  rw [show refCells A f0 f1 f2 f3 f4 f5 f6 f7 f8 (.slice va q vc) = CS from HCS.out.symm]
  clear h hfs hl
  obtain ⟨x, HX⟩ : ∃ x, Hid (x = [f0, f1, f2, f3, f4, f5, f6, f7, f8].getD i.toNat 0) := ⟨_, Lib.hid rfl⟩
  rw [← HX.out]
  have hb0 : (blk != 0) = false := by simp [hz]
  have hb1 : (blk == 0) = true := by simp [hz]
  clear hz
  go_enter Try.func48, Try.ntmps48
  go_upto_region 1 with fail
  obtain ⟨hin, hbq⟩ := RefIn.start3 w CS #[.int .u64 blk, .int .i64 i] #[.int .i64 0, .int .i64 0, .int .i64 0, .int .i64 0, .int .u64 0, .int .u64 0, .int .u64 0, .int .u64 0, .int .u64 0, .int .u64 0, .int .u64 0, .int .u64 0, .int .u64 0, .slice none 0 0, .int .i64 0, .int .i64 0, .int .i64 0, .int .i64 0, .int .i64 0, .int .i64 0] rfl
  obtain ⟨bx, Hx⟩ : ∃ bx, Hid (bx = w.heap.size) := ⟨_, Lib.hid rfl⟩
  obtain ⟨bq, Hq⟩ : ∃ bq, Hid (bq = w.heap.size + 1) := ⟨_, Lib.hid rfl⟩
  obtain ⟨bz, Hz⟩ : ∃ bz, Hid (bz = w.heap.size + 2) := ⟨_, Lib.hid rfl⟩
  rw [← Hz.out, ← Hx.out] at hin
  rw [← Hq.out] at hbq
  rw [← Hz.out, ← Hq.out, ← Hx.out]
  generalize ((w.alloc (.cells CS 32)).alloc _).alloc _ = W1 at hin hbq ⊢
  have HIN := Lib.hid hin
  have HT1 := Lib.hid hin.turn
  have HBQ := Lib.hid hbq
  have a0 : W1.cell? ⟨bq, 0, none⟩ = some (.int .u64 blk) := Frm.cell_row _ _ _ _ _ _ hbq
  have a1 : W1.cell? ⟨bq, 1, none⟩ = some (.int .i64 i) := Frm.cell_row _ _ _ _ _ _ hbq
  clear hin hbq
  obtain ⟨w2, Hw2⟩ : ∃ w2, Hid (w2 = W1) := ⟨_, Lib.hid rfl⟩
  rw [← Hw2.out] at HIN HT1 HBQ a0 a1 ⊢
  have HIN2 := Lib.hid HIN.out
  have r1 : decide (i < 0) = false := by simp; omega
  have r2 : decide ((9 : Int) ≤ i) = false := by simp; omega
  have HXW : Hid (w2.drew.cell? ⟨bx, 4 + i.toNat, none⟩ = some (.int .u64 x)) := Lib.hid (by
    show w2.cell? ⟨bx, 4 + i.toNat, none⟩ = some (.int .u64 x)
    rw [HIN2.out.cell, HCS.out, HX.out]
    exact fix_cell A f0 f1 f2 f3 f4 f5 f6 f7 f8 _ _ _ (word_at (by simp; omega)))
  have HXZ : Hid ((⟨bx, 4 + i.toNat, none⟩ : Addr).block ∉ [bz]) := Lib.hid (by simp; exact HIN2.out.ne)
  have HQZ : Hid ((⟨bq, 1, none⟩ : Addr).block ∉ [bz]) := Lib.hid (by rw [Hq.out, Hz.out]; simp)
  go_upto_region 11 with fail
  have HD2 : Hid (∃ Z : Array Value, Z.size = 20 ∧ w2.drew.heap[bz]? = some (.cells Z 32 (0, 0))) := Lib.hid HIN2.out.res
  obtain ⟨Z, z1, z2⟩ := HD2.out
  have HZ1 := Lib.hid z1
  have HZ2 := Lib.hid z2
  clear z1 z2
  have HINd : Hid (RefIn w bx bz CS w2.drew) := Lib.hid (HIN2.out.step ((Frm.Turn.refl [] w2).drew) (by simp) (by simp) (by simp))
  have hld := HINd.out.told HSZCS.out HFS.out
  have HI20 : Hid ((Try.prog.info? 32).map (·.size) = some CS.toList.length) := Lib.hid (by rw [Array.length_toList, HSZCS.out]; exact info_refA)
  have HS : Hid (∀ W, Frm.Turn [bz] w2.drew W → (W.rangeAt bx 0 CS.toList ∧ W.cell? ⟨bq, 1, none⟩ = some (.int .i64 i) ∧ W.cell? (⟨bx, 4 + i.toNat, none⟩) = some (.int .u64 x))) := Lib.hid fun W hT => by
    refine ⟨fun j u hu => ?_, hT.cell a1 HQZ.out, hT.cell HXW.out HXZ.out⟩
    rw [Nat.zero_add]
    refine hT.cell ?_ (by simp; exact HIN2.out.ne)
    rw [HINd.out.cell]
    simpa using hu
  clear a0 a1
  refine wp_region_held_drew (S := fun w' => w'.rangeAt bx 0 CS.toList ∧ w'.cell? ⟨bq, 1, none⟩ = some (.int .i64 i) ∧ w'.cell? (⟨bx, 4 + i.toNat, none⟩) = some (.int .u64 x)) (by kernel_rfl) ?_ (fun hHeld => ?_)
  · exact HS.out _ (Frm.Turn.refl _ _)
  refine wpAnyH_take (i := 0) (v := _) rfl (by kernel_rfl) (by kernel_rfl) (by kernel_rfl) (fun _ _ _ h => h)
          (yieldsIf_load_mid (by rfl) _ _ rfl bx 0 rfl CS.toList _ (fun w hw => hw.1) HFS.out rfl HI20.out) (by assumption) ?_
  simp only [Act.put, List.setIfInBounds_toArray, List.set_cons_zero, List.set_cons_succ, Array.toArray_toList]
  refine wpAnyH_take (i := 1) (v := ?_) rfl (by kernel_rfl) (by kernel_rfl) (by kernel_rfl) (fun _ _ _ h => h) (Or.inl ⟨by rfl, ?_⟩) (by assumption) ?_
  rotate_left
  · (intro w hSw; (try dsimp only at hSw); go_simp; try with_reducible rfl)
  simp only [Act.put, List.getElem_toArray, List.getElem_cons_succ, List.getElem_cons_zero, List.setIfInBounds_toArray, List.set_cons_zero, List.set_cons_succ]
  refine wpAnyH_take (i := 2) (v := ?_) rfl (by kernel_rfl) (by kernel_rfl) (by kernel_rfl) (fun _ _ _ h => h) (Or.inl ⟨by rfl, ?_⟩) (by assumption) ?_
  rotate_left
  · (intro w hSw; (try dsimp only at hSw); go_simp; try with_reducible rfl)
  simp only [Act.put, List.getElem_toArray, List.getElem_cons_succ, List.getElem_cons_zero, List.setIfInBounds_toArray, List.set_cons_zero, List.set_cons_succ]
  refine wpAnyH_take (i := 3) (v := ?_) rfl (by kernel_rfl) (by kernel_rfl) (by kernel_rfl) (fun _ _ _ h => h) (Or.inl ⟨by rfl, ?_⟩) (by assumption) ?_
  rotate_left
  · (intro w hSw; (try dsimp only at hSw); go_simp; try with_reducible rfl)
  simp only [Act.put, List.getElem_toArray, List.getElem_cons_succ, List.getElem_cons_zero, List.setIfInBounds_toArray, List.set_cons_zero, List.set_cons_succ]
  refine wpAnyH_take (i := 4) (v := ?_) rfl (by kernel_rfl) (by kernel_rfl) (by kernel_rfl) (fun _ _ _ h => h) (Or.inl ⟨by rfl, ?_⟩) (by assumption) ?_
  rotate_left
  · (intro w hSw; (try dsimp only at hSw); go_simp; try with_reducible rfl)
  simp only [Act.put, List.getElem_toArray, List.getElem_cons_succ, List.getElem_cons_zero, List.setIfInBounds_toArray, List.set_cons_zero, List.set_cons_succ]
  refine wpAnyH_take (i := 5) (v := ?_) rfl (by kernel_rfl) (by kernel_rfl) (by kernel_rfl) (fun _ _ _ h => h) (Or.inl ⟨by rfl, ?_⟩) (by assumption) ?_
  rotate_left
  · (intro w hSw; (try dsimp only at hSw); go_simp; try with_reducible rfl)
  simp only [Act.put, List.getElem_toArray, List.getElem_cons_succ, List.getElem_cons_zero, List.setIfInBounds_toArray, List.set_cons_zero, List.set_cons_succ]
  refine wpAnyH_ready (rs := [6]) (by kernel_rfl) (by simp) ?_
  refine AllReadyH.cons rfl (fun K hK => ?_) AllReadyH.nil
  simp only [List.getElem_toArray, List.getElem_cons_succ, List.getElem_cons_zero]
  refine wp_store_row 32 (.tmp 4) (.tmp 46) rfl bz CS rfl rfl 32 Z HZ2.out (by rw [HSZCS.out]; exact info_refA) (by rw [HZ1.out, HSZCS.out]) HONECS.out ?_
  refine hK _ _ (HS.out _ (setRow_turn (Frm.Turn.refl [bz] _) (.inl (by simp)) CS)) (fun hHeld => ?_)
  try simp only [Act.put, List.getElem_toArray, List.getElem_cons_succ, List.getElem_cons_zero, List.setIfInBounds_toArray, List.set_cons_zero, List.set_cons_succ]
  refine wpAnyH_take (i := 7) (v := ?_) rfl (by kernel_rfl) (by kernel_rfl) (by kernel_rfl) (fun _ _ _ h => h) (Or.inl ⟨by rfl, ?_⟩) (by assumption) ?_
  rotate_left
  · (intro w hSw; (try dsimp only at hSw); go_simp; try with_reducible rfl)
  simp only [Act.put, List.getElem_toArray, List.getElem_cons_succ, List.getElem_cons_zero, List.setIfInBounds_toArray, List.set_cons_zero, List.set_cons_succ]
  refine wpAnyH_take (i := 8) (v := ?_) rfl (by kernel_rfl) (by kernel_rfl) (by kernel_rfl) (fun _ _ _ h => h) (Or.inl ⟨by rfl, ?_⟩) (by assumption) ?_
  rotate_left
  · (intro w hSw; (try dsimp only at hSw); go_simp; try with_reducible rfl)
  simp only [Act.put, List.getElem_toArray, List.getElem_cons_succ, List.getElem_cons_zero, List.setIfInBounds_toArray, List.set_cons_zero, List.set_cons_succ]
  refine wpAnyH_done (by kernel_rfl) ?_ _
  go_wp2_with fail
  exact bodyPost_ret (v := .tuple #[.agg CS, .int .u64 x, .int .i64 0]) (by simp [results, Try.results48, asAddr, hld, Act.put]) rfl ⟨rfl, HINd.out.end_⟩
end Arn
end Go.Proofs.Ytfbnidjcimcfoaa
