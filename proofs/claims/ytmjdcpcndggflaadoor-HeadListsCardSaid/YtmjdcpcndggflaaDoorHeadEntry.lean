/- Right entries, their words, entries read. -/
import Derived.Test.YtmjdcpcndggflaaDoorHeadLinks
import Derived.Test.YtmjdcpcndggflaaDoorHeadOps
import Derived.StillTailTactics
set_option linter.unusedVariables false
set_option linter.unusedSimpArgs false
namespace Go.Proofs.YtmjdcpcndggflaaDoor
namespace Hed
open Go.RowKit Go.Maps Arn

abbrev wp_tail := @Ops.wp_tail
theorem w64o {a : Int} (h : W64 a) : Ops.W64 a := ⟨h.1, by have := h.2; omega⟩
theorem noteB_is (n : Int) : noteB n = Ops.vOk (n % 4294967296) := rfl
def entO (s n x : Int) : Obj := .cells #[.int .i64 s, .int .u64 n, .int .u64 x] 26
theorem vAns_form (n : Int) : ∃ a b : Int, Ops.vAns n = .agg #[.int .i64 a, .int .i64 b] := by
  unfold Ops.vAns
  split <;> exact ⟨_, _, rfl⟩
set_option maxRecDepth 100000 in
set_option maxHeartbeats 4000000 in
theorem isEntry_any (s n x : Int) (w : World) (hk : Ops.Kn w) (hn : W64 n) (hx : W64 x) :
    Calls Tryd.prog 29 #[.agg #[.int .i64 s, .int .u64 n, .int .u64 x]] w fun e w' => e = .returned (.bool (entB s n x)) ∧ Frm.Turn [] w w' := by
  have HT := Lib.hid (fun o => (Frm.Turn.refl [] w).alloc o)
  have HB : Hid ((w.alloc (entO s n x)).heap[w.heap.size]? = some (entO s n x)) := Lib.hid (heap_new w _)
  unfold entO at HB
  have HBO := Lib.hid (fun W => Fld.body_any n W (w64f hn))
  obtain ⟨p, HP⟩ : ∃ p, Hid (p = n % 4294967296) := ⟨_, Lib.hid rfl⟩
  have hp : Ops.W64 p := by rw [HP.out]; have := hn.1; have := hn.2; exact ⟨by omega, by omega⟩
  rw [← HP.out] at HBO
  have HU := Lib.hid (fun W (hT : Frm.Turn [] w W) => Ops.unpackResp_any p W (hk.turn hT) hp)
  have HL : Hid (∀ (W : World) (o : Obj), Calls Tryd.prog 40 #[.slice (some ⟨W.heap.size + 1, 0, none⟩) 1 1] ((W.alloc o).alloc (.cells #[.int .u64 x] 22)) fun e w' => e = .returned (.bool (linkB x)) ∧ Frm.Turn [] ((W.alloc o).alloc (.cells #[.int .u64 x] 22)) w') :=
    Lib.hid fun W o => (links_any [x] _ _ (by have := words_made (W.alloc o) [x]; rwa [World.size_alloc] at this) (by simp) (by intro y hy; simp at hy; subst hy; exact hx)).mono (by rintro e w' ⟨rfl, hT⟩; exact ⟨by simp, hT⟩)
  obtain ⟨va, vb, hva⟩ := vAns_form p
  rw [hva] at HU
  unfold entB
  rw [noteB_is, ← HP.out]
  generalize Ops.vOk p = b1 at HU ⊢
  generalize linkB x = b4 at HL ⊢
  clear hn hx hk hp hva HP
  have HR : ∀ b2 b3, (decide (0 ≤ s) = b2) → decide (s < 255) = b3 → Hid ((b1 && decide (0 ≤ s) && decide (s < 255) && b4) = (b1 && b2 && b3 && b4)) := fun b2 b3 h2 h3 => Lib.hid (by rw [h2, h3])
  obtain ⟨b2, t2⟩ : ∃ b2, decide (0 ≤ s) = b2 := ⟨_, rfl⟩
  obtain ⟨b3, t3⟩ : ∃ b3, decide (s < 255) = b3 := ⟨_, rfl⟩
  have HX := HR b2 b3 t2 t3
  rw [HX.out]
  clear HR HX
  cases b1 with
  | false =>
    clear t2 t3
    go_enter Tryd.func29, Tryd.ntmps29
    go_wp2_with (first
      | (go_at_call 43; (with_reducible refine (HBO.out _).mono ?_); rintro e w1 ⟨rfl, rfl⟩)
      | (go_at_call 42; (with_reducible refine (HU.out _ (HT.out _)).mono ?_); rintro e w2 ⟨rfl, hT⟩; have HT2 := Lib.hid ((HT.out _).trans hT (by simp)); clear hT))
    go_ret
    exact ⟨rfl, HT2.out.alloc _⟩
  | true =>
    cases b2 with
    | false =>
      clear t3
      go_enter Tryd.func29, Tryd.ntmps29
      go_wp2_with (first
        | (go_at_call 43; (with_reducible refine (HBO.out _).mono ?_); rintro e w1 ⟨rfl, rfl⟩)
        | (go_at_call 42; (with_reducible refine (HU.out _ (HT.out _)).mono ?_); rintro e w2 ⟨rfl, hT⟩; obtain ⟨⟨e0, e1, e2⟩, f0, f1, f2⟩ := blk3 (((hT.alloc (.cells #[.int .i64 va, .int .i64 vb] 69))).keep HB.out (by simp)); have HT2 := Lib.hid ((HT.out _).trans hT (by simp)); clear hT))
      go_ret
      exact ⟨rfl, HT2.out.alloc _⟩
    | true =>
      cases b3 with
      | false =>
        go_enter Tryd.func29, Tryd.ntmps29
        go_wp2_with (first
          | (go_at_call 43; (with_reducible refine (HBO.out _).mono ?_); rintro e w1 ⟨rfl, rfl⟩)
          | (go_at_call 42; (with_reducible refine (HU.out _ (HT.out _)).mono ?_); rintro e w2 ⟨rfl, hT⟩; obtain ⟨⟨e0, e1, e2⟩, f0, f1, f2⟩ := blk3 (((hT.alloc (.cells #[.int .i64 va, .int .i64 vb] 69))).keep HB.out (by simp)); have HT2 := Lib.hid ((HT.out _).trans hT (by simp)); clear hT))
        go_ret
        exact ⟨rfl, HT2.out.alloc _⟩
      | true =>
        go_enter Tryd.func29, Tryd.ntmps29
        go_wp2_with (first
          | (go_at_call 43; (with_reducible refine (HBO.out _).mono ?_); rintro e w1 ⟨rfl, rfl⟩)
          | (go_at_call 42; (with_reducible refine (HU.out _ (HT.out _)).mono ?_); rintro e w2 ⟨rfl, hT⟩; obtain ⟨⟨e0, e1, e2⟩, f0, f1, f2⟩ := blk3 (((hT.alloc (.cells #[.int .i64 va, .int .i64 vb] 69))).keep HB.out (by simp)); have HT2 := Lib.hid ((HT.out _).trans hT (by simp)); clear hT)
          | (go_at_call 40; (with_reducible refine (HL.out _ _).mono ?_); rintro e w3 ⟨rfl, hT⟩; have HT3 := Lib.hid (((HT2.out.alloc _).alloc _).trans hT (by simp)); clear hT))
        go_ret
        exact ⟨rfl, HT3.out⟩
set_option maxRecDepth 100000 in
set_option maxHeartbeats 4000000 in
theorem EntryWords_no (s n x : Int) (w : World) (hk : Ops.Kn w) (hn : W64 n) (hx : W64 x) (hb : entB s n x = false) :
    Calls Tryd.prog 11 #[.agg #[.int .i64 s, .int .u64 n, .int .u64 x]] w fun e w' => e = .returned (.tuple #[.slice none 0 0, .bool false]) ∧ Frm.Turn [] w w' := by
  have HT := Lib.hid (fun o => (Frm.Turn.refl [] w).alloc o)
  have HH := Lib.hid (fun W (hT : Frm.Turn [] w W) => isEntry_any s n x W (hk.turn hT) hn hx)
  rw [hb] at HH
  clear hb hn hx hk
  go_enter Tryd.func11, Tryd.ntmps11
  go_wp2_with (go_at_call 29; (with_reducible refine (HH.out _ (HT.out _)).mono ?_); rintro e w1 ⟨rfl, hT⟩; have HT1 := Lib.hid ((HT.out _).trans hT (by simp)); clear hT)
  go_ret2
  exact ⟨rfl, HT1.out⟩
set_option maxRecDepth 100000 in
set_option maxHeartbeats 4000000 in
theorem EntryWords_yes (s n x : Int) (w : World) (hk : Ops.Kn w) (hn : W64 n) (hx : W64 x) (hb : entB s n x = true) :
    Calls Tryd.prog 11 #[.agg #[.int .i64 s, .int .u64 n, .int .u64 x]] w fun e w' => ∃ g, e = .returned (.tuple #[.slice (some ⟨g, 0, none⟩) 3 3, .bool true]) ∧ WordsAt w' (.slice (some ⟨g, 0, none⟩) 3 3) [s, n, x] ∧ w.heap.size ≤ g ∧ Frm.Turn [] w w' := by
  have HT := Lib.hid (fun o => (Frm.Turn.refl [] w).alloc o)
  have HB : Hid ((w.alloc (entO s n x)).heap[w.heap.size]? = some (entO s n x)) := Lib.hid (heap_new w _)
  unfold entO at HB
  have HH := Lib.hid (fun W (hT : Frm.Turn [] w W) => isEntry_any s n x W (hk.turn hT) hn hx)
  rw [hb] at HH
  obtain ⟨_, a0, a1, _⟩ := entB_parts hb
  clear hb hn hx hk
  go_enter Tryd.func11, Tryd.ntmps11
  go_wp2_with (go_at_call 29; (with_reducible refine (HH.out _ (HT.out _)).mono ?_); rintro e w1 ⟨rfl, hT⟩; obtain ⟨⟨e0, e1, e2⟩, f0, f1, f2⟩ := blk3 (hT.keep HB.out (by simp)); have HT1 := Lib.hid ((HT.out _).trans hT (by simp)); clear hT)
  go_ret2
  exact ⟨_, rfl, words_made w1 [s, n, x], HT1.out.size, HT1.out.alloc _⟩
set_option maxRecDepth 100000 in
set_option maxHeartbeats 4000000 in
theorem ReadEntry_len (l : List Int) (v : Value) (w : World) (h : WordsAt w v l) (hl : l.length ≠ 3) :
    Calls Tryd.prog 16 #[v] w fun e w' => e = .returned (.tuple #[.agg #[.int .i64 0, .int .u64 0, .int .u64 0], .bool false]) ∧ Frm.Turn [] w w' := by
  obtain ⟨a, c, rfl⟩ := WordsAt.form' h
  have t0 : ((l.length : Int) != 3) = true := by simp; omega
  generalize l.length = n at hl t0 ⊢
  have HT : Hid (Frm.Turn [] w (w.alloc (entO 0 0 0))) := Lib.hid ((Frm.Turn.refl [] w).alloc _)
  clear h hl
  go_enter Tryd.func16, Tryd.ntmps16
  go_wp2
  refine bodyPost_ret (v := .tuple #[.agg #[.int .i64 0, .int .u64 0, .int .u64 0], .bool false]) (by simp [results, Tryd.results16, go_sem]) rfl ⟨rfl, ?_⟩
  exact HT.out
/-- Three words in a slice. -/
theorem three_cells {w : World} {v : Value} {x0 x1 x2 : Int} (h : WordsAt w v [x0, x1, x2]) : ∃ a c, v = .slice (some a) 3 c ∧ w.cell? a = some (.int .u64 x0) ∧ w.cell? { a with off := a.off + 1, spot := none } = some (.int .u64 x1) ∧ w.cell? { a with off := a.off + 2, spot := none } = some (.int .u64 x2) := by
  obtain ⟨a, c, e, q⟩ := WordsAt.cellAt h (by simp)
  have q0 := q 0 _ rfl
  have q1 := q 1 _ rfl
  have q2 := q 2 _ rfl
  simp only [Addr.add, if_true, if_neg (show ¬ (1 : Nat) = 0 by decide), if_neg (show ¬ (2 : Nat) = 0 by decide)] at q0 q1 q2
  exact ⟨a, c, e, q0, q1, q2⟩
set_option maxRecDepth 100000 in
set_option maxHeartbeats 4000000 in
theorem ReadEntry_three (x0 x1 x2 : Int) (v : Value) (w : World) (h : WordsAt w v [x0, x1, x2]) (hk : Ops.Kn w) (h1 : W64 x1) (h2 : W64 x2) (b : Bool) (hb : entB (IntKind.i64.wrap x0) x1 x2 = b) :
    Calls Tryd.prog 16 #[v] w fun e w' => e = .returned (.tuple #[if b then .agg #[.int .i64 (IntKind.i64.wrap x0), .int .u64 x1, .int .u64 x2] else .agg #[.int .i64 0, .int .u64 0, .int .u64 0], .bool b]) ∧ Frm.Turn [] w w' := by
  obtain ⟨a, c, rfl, c0, c1, c2⟩ := three_cells h
  obtain ⟨s, HS⟩ : ∃ s, Hid (s = IntKind.i64.wrap x0) := ⟨_, Lib.hid rfl⟩
  have hw : IntKind.i64.wrap x0 = s := HS.out.symm
  rw [hw] at hb ⊢
  have HT : Hid (∀ o o', Frm.Turn [] w (((w.alloc o).alloc o').drew)) := Lib.hid (fun o o' => (((Frm.Turn.refl [] w).alloc o).alloc o').drew)
  have HB0 : Hid (∀ o o', (((w.alloc o).alloc o').drew).heap[w.heap.size]? = some o) := Lib.hid (fun o o' => Ops.heap_below w o o')
  have HB1 : Hid (∀ o o', (((w.alloc o).alloc o').drew).heap[w.heap.size + 1]? = some o') := Lib.hid (fun o o' => Ops.heap_last w o o')
  have HI := Lib.hid (fun W (hT : Frm.Turn [] w W) => isEntry_any s x1 x2 W (hk.turn hT) h1 h2)
  rw [hb] at HI
  have hTa : Frm.Turn [] w (w.alloc (.cells #[.int .i64 0, .int .u64 0, .int .u64 0] 26)) := (Frm.Turn.refl [] w).alloc _
  have d0 := (hTa.alloc (.cells #[.int .i64 0, .int .u64 0, .int .u64 0] 26)).cell c0 (by simp)
  have d1 := (hTa.alloc (.cells #[.int .i64 0, .int .u64 0, .int .u64 0] 26)).cell c1 (by simp)
  have d2 := (hTa.alloc (.cells #[.int .i64 0, .int .u64 0, .int .u64 0] 26)).cell c2 (by simp)
  replace c0 := hTa.cell c0 (by simp)
  replace c1 := hTa.cell c1 (by simp)
  replace c2 := hTa.cell c2 (by simp)
  clear hb hk h1 h2 h hTa
  go_enter Tryd.func16, Tryd.ntmps16
  go_wp2_with fail
  go_region
  cases b with
  | false =>
    go_wp2_with (go_at_call 29; (with_reducible refine (HI.out _ (HT.out _ _)).mono ?_); rintro e w1 ⟨rfl, hT⟩; obtain ⟨⟨e0, e1, e2⟩, f0, f1, f2⟩ := blk3 (hT.keep (HB0.out _ _) (by simp)); have HT1 := Lib.hid ((HT.out _ _).trans hT (by simp)); clear hT)
    exact bodyPost_ret (v := .tuple #[.agg #[.int .i64 0, .int .u64 0, .int .u64 0], .bool false]) (by simp [results, Tryd.results16, go_sem, e0, e1, e2]) rfl ⟨rfl, ((HT1.out.setCell (p := ⟨w.heap.size, 0, none⟩) (.inr (Nat.le_refl _)) _).setCell (p := ⟨w.heap.size, 1, none⟩) (.inr (Nat.le_refl _)) _).setCell (p := ⟨w.heap.size, 2, none⟩) (.inr (Nat.le_refl _)) _⟩
  | true =>
    go_wp2_with (go_at_call 29; (with_reducible refine (HI.out _ (HT.out _ _)).mono ?_); rintro e w1 ⟨rfl, hT⟩; obtain ⟨⟨e0, e1, e2⟩, f0, f1, f2⟩ := blk3 (hT.keep (HB0.out _ _) (by simp)); obtain ⟨⟨g0, g1, g2⟩, i0, i1, i2⟩ := blk3 (hT.keep (HB1.out _ _) (by simp)); have HT1 := Lib.hid ((HT.out _ _).trans hT (by simp)); clear hT)
    exact bodyPost_ret (v := .tuple #[.agg #[.int .i64 s, .int .u64 x1, .int .u64 x2], .bool true]) (by simp [results, Tryd.results16, go_sem, e0, e1, e2]) rfl ⟨rfl, ((HT1.out.setCell (p := ⟨w.heap.size, 0, none⟩) (.inr (Nat.le_refl _)) _).setCell (p := ⟨w.heap.size, 1, none⟩) (.inr (Nat.le_refl _)) _).setCell (p := ⟨w.heap.size, 2, none⟩) (.inr (Nat.le_refl _)) _⟩
theorem ReadEntry_any (l : List Int) (v : Value) (w : World) (h : WordsAt w v l) (h64 : ∀ u, u ∈ l → W64 u) (hk : Ops.Kn w) :
    Calls Tryd.prog 16 #[v] w fun e w' => e = .returned (.tuple #[entV ((readE l).getD zeroE), .bool (readE l).isSome]) ∧ Frm.Turn [] w w' := by
  by_cases hl : l.length = 3
  · match l, hl with
    | [x0, x1, x2], _ =>
      refine (ReadEntry_three x0 x1 x2 v w h hk (h64 x1 (by simp)) (h64 x2 (by simp)) _ rfl).mono ?_
      rintro e w' ⟨rfl, hT⟩
      refine ⟨?_, hT⟩
      rw [readE_three]
      cases entB (IntKind.i64.wrap x0) x1 x2 <;> rfl
  · refine (ReadEntry_len l v w h hl).mono ?_
    rintro e w' ⟨rfl, hT⟩
    refine ⟨?_, hT⟩
    rw [readE_len hl]
    rfl
end Hed
end Go.Proofs.YtmjdcpcndggflaaDoor
