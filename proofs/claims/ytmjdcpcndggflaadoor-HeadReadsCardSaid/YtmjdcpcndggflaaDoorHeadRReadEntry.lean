/- The document's entries read; what Read and ReadEntry, the package's and the document's, tell of any words. -/
import Derived.Test.YtmjdcpcndggflaaDoorHeadRRead
set_option linter.unusedVariables false
set_option linter.unusedSimpArgs false
namespace Go.Proofs.YtmjdcpcndggflaaDoor
namespace Hed
open Go.RowKit Go.Maps Arn

set_option maxRecDepth 100000 in
set_option maxHeartbeats 4000000 in
theorem RReadEntry_len (l : List Int) (v : Value) (w : World) (h : WordsAt w v l) (hl : l.length ≠ 3) :
    Calls Tryd.prog 17 #[v] w fun e w' => e = .returned (.tuple #[.agg #[.int .i64 0, .int .u64 0, .int .u64 0], .bool false]) ∧ Frm.Turn [] w w' := by
  obtain ⟨a, c, rfl⟩ := WordsAt.form' h
  have t0 : ((l.length : Int) != 3) = true := by simp; omega
  generalize l.length = n at hl t0 ⊢
  have HT : Hid (Frm.Turn [] w (w.alloc (entO 0 0 0))) := Lib.hid ((Frm.Turn.refl [] w).alloc _)
  clear h hl
  go_enter Tryd.func17, Tryd.ntmps17
  go_wp2
  refine bodyPost_ret (v := .tuple #[.agg #[.int .i64 0, .int .u64 0, .int .u64 0], .bool false]) (by simp [results, Tryd.results17, go_sem]) rfl ⟨rfl, ?_⟩
  exact HT.out
set_option maxRecDepth 100000 in
set_option maxHeartbeats 4000000 in
theorem RReadEntry_far (x0 x1 x2 : Int) (v : Value) (w : World) (h : WordsAt w v [x0, x1, x2]) (hf : 254 < x0) :
    Calls Tryd.prog 17 #[v] w fun e w' => e = .returned (.tuple #[.agg #[.int .i64 0, .int .u64 0, .int .u64 0], .bool false]) ∧ Frm.Turn [] w w' := by
  obtain ⟨a, c, rfl, c0, c1, c2⟩ := three_cells h
  have HT : Hid (Frm.Turn [] w (w.alloc (entO 0 0 0))) := Lib.hid ((Frm.Turn.refl [] w).alloc _)
  have hTa : Frm.Turn [] w (w.alloc (.cells #[.int .i64 0, .int .u64 0, .int .u64 0] 26)) := (Frm.Turn.refl [] w).alloc _
  replace c0 := hTa.cell c0 (by simp)
  clear h c1 c2 hTa
  go_enter Tryd.func17, Tryd.ntmps17
  go_wp2
  refine bodyPost_ret (v := .tuple #[.agg #[.int .i64 0, .int .u64 0, .int .u64 0], .bool false]) (by simp [results, Tryd.results17, go_sem]) rfl ⟨rfl, ?_⟩
  exact HT.out
set_option maxRecDepth 100000 in
set_option maxHeartbeats 4000000 in
theorem RReadEntry_near (x0 x1 x2 : Int) (v : Value) (w : World) (h : WordsAt w v [x0, x1, x2]) (hn : x0 ≤ 254) (h1 : W64 x1) (h2 : W64 x2) (b : Bool) (hb : entB (IntKind.i64.wrap x0) x1 x2 = b) :
    Calls Tryd.prog 17 #[v] w fun e w' => e = .returned (.tuple #[if b then .agg #[.int .i64 (IntKind.i64.wrap x0), .int .u64 x1, .int .u64 x2] else .agg #[.int .i64 0, .int .u64 0, .int .u64 0], .bool b]) ∧ Frm.Turn [] w w' := by
  obtain ⟨a, c, rfl, c0, c1, c2⟩ := three_cells h
  obtain ⟨s, HS⟩ : ∃ s, Hid (s = IntKind.i64.wrap x0) := ⟨_, Lib.hid rfl⟩
  have hw : IntKind.i64.wrap x0 = s := HS.out.symm
  rw [hw] at hb ⊢
  have HT : Hid (∀ o o', Frm.Turn [] w (((w.alloc o).alloc o').drew)) := Lib.hid (fun o o' => (((Frm.Turn.refl [] w).alloc o).alloc o').drew)
  have HB0 : Hid (∀ o o', (((w.alloc o).alloc o').drew).heap[w.heap.size]? = some o) := Lib.hid (fun o o' => Ops.heap_below w o o')
  have HB1 : Hid (∀ o o', (((w.alloc o).alloc o').drew).heap[w.heap.size + 1]? = some o') := Lib.hid (fun o o' => Ops.heap_last w o o')
  have HI := Lib.hid (fun W => REntry_any s x1 x2 W h1 h2)
  rw [hb] at HI
  have hTa : Frm.Turn [] w (w.alloc (.cells #[.int .i64 0, .int .u64 0, .int .u64 0] 26)) := (Frm.Turn.refl [] w).alloc _
  have d0 := (hTa.alloc (.cells #[.int .i64 0, .int .u64 0, .int .u64 0] 26)).cell c0 (by simp)
  have d1 := (hTa.alloc (.cells #[.int .i64 0, .int .u64 0, .int .u64 0] 26)).cell c1 (by simp)
  have d2 := (hTa.alloc (.cells #[.int .i64 0, .int .u64 0, .int .u64 0] 26)).cell c2 (by simp)
  replace c0 := hTa.cell c0 (by simp)
  replace c1 := hTa.cell c1 (by simp)
  replace c2 := hTa.cell c2 (by simp)
  clear hb h1 h2 h hTa
  go_enter Tryd.func17, Tryd.ntmps17
  go_wp2_with fail
  go_region
  cases b with
  | false =>
    go_wp2_with (go_at_call 12; (with_reducible refine (HI.out _).mono ?_); rintro e w1 ⟨v9, rfl, _, ⟨a9, n9, c9, rfl⟩, hT⟩; obtain ⟨⟨e0, e1, e2⟩, f0, f1, f2⟩ := blk3 (hT.keep (HB0.out _ _) (by simp)); have HT1 := Lib.hid ((HT.out _ _).trans hT (by simp)); clear hT)
    exact bodyPost_ret (v := .tuple #[.agg #[.int .i64 0, .int .u64 0, .int .u64 0], .bool false]) (by simp [results, Tryd.results17, go_sem, e0, e1, e2]) rfl ⟨rfl, ((HT1.out.setCell (p := ⟨w.heap.size, 0, none⟩) (.inr (Nat.le_refl _)) _).setCell (p := ⟨w.heap.size, 1, none⟩) (.inr (Nat.le_refl _)) _).setCell (p := ⟨w.heap.size, 2, none⟩) (.inr (Nat.le_refl _)) _⟩
  | true =>
    go_wp2_with (go_at_call 12; (with_reducible refine (HI.out _).mono ?_); rintro e w1 ⟨v9, rfl, _, ⟨a9, n9, c9, rfl⟩, hT⟩; obtain ⟨⟨e0, e1, e2⟩, f0, f1, f2⟩ := blk3 (hT.keep (HB0.out _ _) (by simp)); obtain ⟨⟨g0, g1, g2⟩, i0, i1, i2⟩ := blk3 (hT.keep (HB1.out _ _) (by simp)); have HT1 := Lib.hid ((HT.out _ _).trans hT (by simp)); clear hT)
    exact bodyPost_ret (v := .tuple #[.agg #[.int .i64 s, .int .u64 x1, .int .u64 x2], .bool true]) (by simp [results, Tryd.results17, go_sem, e0, e1, e2]) rfl ⟨rfl, ((HT1.out.setCell (p := ⟨w.heap.size, 0, none⟩) (.inr (Nat.le_refl _)) _).setCell (p := ⟨w.heap.size, 1, none⟩) (.inr (Nat.le_refl _)) _).setCell (p := ⟨w.heap.size, 2, none⟩) (.inr (Nat.le_refl _)) _⟩
theorem RReadEntry_any (l : List Int) (v : Value) (w : World) (h : WordsAt w v l) (h64 : ∀ u, u ∈ l → W64 u) :
    Calls Tryd.prog 17 #[v] w fun e w' => e = .returned (.tuple #[entV ((readE l).getD zeroE), .bool (readE l).isSome]) ∧ Frm.Turn [] w w' := by
  by_cases hl : l.length = 3
  · match l, hl with
    | [x0, x1, x2], _ =>
      by_cases hn : x0 ≤ 254
      · refine (RReadEntry_near x0 x1 x2 v w h hn (h64 x1 (by simp)) (h64 x2 (by simp)) _ rfl).mono ?_
        rintro e w' ⟨rfl, hT⟩
        refine ⟨?_, hT⟩
        rw [readE_three]
        cases entB (IntKind.i64.wrap x0) x1 x2 <;> rfl
      · refine (RReadEntry_far x0 x1 x2 v w h (by omega)).mono ?_
        rintro e w' ⟨rfl, hT⟩
        refine ⟨?_, hT⟩
        have hx := h64 x0 (by simp)
        have hb : entB (IntKind.i64.wrap x0) x1 x2 = false := by
          cases hb : entB (IntKind.i64.wrap x0) x1 x2 with
          | false => rfl
          | true =>
            obtain ⟨_, p0, p1, _⟩ := entB_parts hb
            rw [wrap_i64 hx.1 (by have := hx.2; omega)] at p0 p1
            by_cases hbig : x0 ≤ 9223372036854775807
            · rw [if_pos hbig] at p0 p1; omega
            · rw [if_neg hbig] at p0 p1; have := hx.2; omega
        rw [readE_three, hb]
        rfl
  · refine (RReadEntry_len l v w h hl).mono ?_
    rintro e w' ⟨rfl, hT⟩
    refine ⟨?_, hT⟩
    rw [readE_len hl]
    rfl
theorem len8 {l : List Int} (h : l.length = 8) : ∃ x0 x1 x2 x3 x4 x5 x6 x7, l = [x0, x1, x2, x3, x4, x5, x6, x7] := by
  match l, h with
  | [x0, x1, x2, x3, x4, x5, x6, x7], _ => exact ⟨_, _, _, _, _, _, _, _, rfl⟩
/-- What both reads of a head tell. -/
theorem read_two (l : List Int) (v : Value) (h64 : ∀ u, u ∈ l → W64 u) :
    ∃ (c m ml q fr ql s sl : Int) (b : Bool), (∀ W, WordsAt W v l → Calls Tryd.prog 14 #[v] W fun e w' => e = .returned (.tuple #[.int .u64 c, .agg #[.int .u64 m, .int .i64 ml, .int .u64 q, .int .i64 fr, .int .i64 ql, .int .u64 s, .int .i64 sl], .bool b]) ∧ Frm.Turn [] W w') ∧
      (∀ W, WordsAt W v l → Calls Tryd.prog 15 #[v] W fun e w' => e = .returned (.tuple #[.int .u64 c, .agg #[.int .u64 m, .int .i64 ml, .int .u64 q, .int .i64 fr, .int .i64 ql, .int .u64 s, .int .i64 sl], .bool b]) ∧ Frm.Turn [] W w') := by
  by_cases hl : l.length = 8
  · obtain ⟨x0, x1, x2, x3, x4, x5, x6, x7, rfl⟩ := len8 hl
    have y0 := h64 x0 (by simp)
    have y1 := h64 x1 (by simp)
    have y2 := h64 x2 (by simp)
    have y3 := h64 x3 (by simp)
    have y4 := h64 x4 (by simp)
    have y5 := h64 x5 (by simp)
    have y6 := h64 x6 (by simp)
    have y7 := h64 x7 (by simp)
    by_cases hg : x2 ≤ 256 ∧ x4 ≤ 255 ∧ x5 ≤ 256 ∧ x7 ≤ 256
    · cases hb : headB x0 x1 (IntKind.i64.wrap x2) x3 (IntKind.i64.wrap x4) (IntKind.i64.wrap x5) x6 (IntKind.i64.wrap x7) with
      | true => exact ⟨x0, x1, IntKind.i64.wrap x2, x3, IntKind.i64.wrap x4, IntKind.i64.wrap x5, x6, IntKind.i64.wrap x7, true, fun W hW => Read_eight _ _ _ _ _ _ _ _ x2 x4 x5 x7 v W hW y0 y1 y3 y6 rfl rfl rfl rfl true hb, fun W hW => RRead_eight _ _ _ _ _ _ _ _ x2 x4 x5 x7 v W hW y0 y1 y3 y6 rfl rfl rfl rfl hg.1 hg.2.1 hg.2.2.1 hg.2.2.2 true hb⟩
      | false => exact ⟨0, 0, 0, 0, 0, 0, 0, 0, false, fun W hW => Read_eight _ _ _ _ _ _ _ _ x2 x4 x5 x7 v W hW y0 y1 y3 y6 rfl rfl rfl rfl false hb, fun W hW => RRead_eight _ _ _ _ _ _ _ _ x2 x4 x5 x7 v W hW y0 y1 y3 y6 rfl rfl rfl rfl hg.1 hg.2.1 hg.2.2.1 hg.2.2.2 false hb⟩
    · have hb : headB x0 x1 (IntKind.i64.wrap x2) x3 (IntKind.i64.wrap x4) (IntKind.i64.wrap x5) x6 (IntKind.i64.wrap x7) = false := by
        cases hb : headB x0 x1 (IntKind.i64.wrap x2) x3 (IntKind.i64.wrap x4) (IntKind.i64.wrap x5) x6 (IntKind.i64.wrap x7) with
        | false => rfl
        | true =>
          exfalso
          obtain ⟨⟨a1, a2⟩, ⟨a3, a4⟩, ⟨a5, a6⟩, ⟨a7, a8⟩, _⟩ := headB_parts hb
          have lem : ∀ x n : Int, W64 x → 0 ≤ IntKind.i64.wrap x → IntKind.i64.wrap x ≤ n → x ≤ n := fun x n hx p0 p1 => by
            rw [wrap_i64 hx.1 (by have := hx.2; omega)] at p0 p1
            by_cases hbig : x ≤ 9223372036854775807
            · rw [if_pos hbig] at p1; omega
            · rw [if_neg hbig] at p0; have := hx.2; omega
          exact hg ⟨lem _ _ y2 a1 a2, lem _ _ y4 a3 a4, lem _ _ y5 a5 a6, lem _ _ y7 a7 a8⟩
      exact ⟨0, 0, 0, 0, 0, 0, 0, 0, false, fun W hW => Read_eight _ _ _ _ _ _ _ _ x2 x4 x5 x7 v W hW y0 y1 y3 y6 rfl rfl rfl rfl false hb, fun W hW => RRead_far _ _ _ _ x2 x4 x5 x7 v W hW hg⟩
  · exact ⟨0, 0, 0, 0, 0, 0, 0, 0, false, fun W hW => Read_len l v W hW hl, fun W hW => RRead_len l v W hW hl⟩
end Hed
end Go.Proofs.YtmjdcpcndggflaaDoor
