/- Accesses and gears upon parts; the words of slots, the program's and the document's. -/
import Derived.Test.YtlghinjggkgfmaaGreatStash
import Derived.Test.YtlghinjggkgfmaaGreatCountSegsWalk
import Derived.Test.YtlghinjggkgfmaaGreatHoldPlain
import Derived.Deep.RegionWith
set_option linter.unusedVariables false
set_option linter.unusedSimpArgs false
namespace Go.Proofs.YtlghinjggkgfmaaGreat
namespace Hld
open Go.RowKit Go.Maps Arn Pac Clm Cnt Sta

variable {w W W' : World} {b k n r : Nat} {A : Ar} {ps : List Part}
/-! ### parts -/
def bkP (x : Nat) (o : Obj) : Part := ⟨[x], [], fun W => W.heap[x]? = some o⟩
theorem bkP_fra (x : Nat) (o : Obj) : (bkP x o).Fra := fun W W' F h ht h1 _ => ht.keep h (h1 x (by simp [bkP]))
def rwP (base : Nat) (v : Value) (xs : List Int) : Part := ⟨v.ownBlock.toList, [], fun W => W.ownsRow base 25 1 v xs.length (u64s xs)⟩
theorem rwP_fra (base : Nat) (v : Value) (xs : List Int) : (rwP base v xs).Fra := fun W W' F h ht h1 _ => Frm.owns_turn h ht (fun q hq => h1 q (by simp [rwP, hq]))
theorem set_cell {W : World} {g i : Nat} {l : List Value} {t : TypeId} (v : Value) (h : W.heap[g]? = some (.cells l.toArray t (0, 0))) : (W.setCell ⟨g, i, none⟩ v).heap[g]? = some (.cells (l.set i v).toArray t (0, 0)) := by
  rw [Frm.heap_set _ _ _ _ _ _ _ h]
  simp
theorem poke_h {x i : Nat} {l : List Value} {t : TypeId} (u : Value) (S : Stash w b A k (bkP x (.cells l.toArray t) :: ps) W) : Stash w b A k (bkP x (.cells (l.set i u).toArray t) :: ps) (W.setCell ⟨x, i, none⟩ u) := by
  have h : W.heap[x]? = some (.cells l.toArray t (0, 0)) := S.on _ (List.mem_cons_self ..)
  exact S.act (turn_set W x i u) (by simp [bkP]) (bkP_fra _ _) (set_cell u h) (fun y hy => .inl hy) (by simp [bkP]) (by simp [bkP])
theorem cell_h {x i : Nat} {l : List Value} {t : TypeId} {u : Value} (S : Stash w b A k ps W) (hm : bkP x (.cells l.toArray t) ∈ ps) (hv : l[i]? = some u) : W.cell? ⟨x, i, none⟩ = some u := by
  have h : W.heap[x]? = some (.cells l.toArray t (0, 0)) := S.on _ hm
  rw [Frm.cell_row _ _ _ _ _ _ h]
  simpa using hv
theorem thaw_h {x i : Nat} {l : List Value} {t : TypeId} (S : Stash w b A k ps W) (hm : bkP x (.cells l.toArray t) ∈ ps) : W.frozen? ⟨x, i, none⟩ = false := Frm.frozen_row _ _ _ _ _ (S.on _ hm)
theorem add_h (S : Stash w b A k ps W) (o : Obj) (ho : (W.alloc o).heap[W.heap.size]? = some o) : Stash w b A k (bkP W.heap.size o :: ps) (W.alloc o) := by
  refine S.add ((Frm.Turn.refl [] W).alloc o) (bkP_fra _ _) ho (fun x hx => ?_) (by simp [bkP]) (by simp [bkP])
  simp [bkP] at hx; subst hx
  exact ⟨Nat.le_refl _, by rw [World.size_alloc]; omega⟩
/-! ### accesses -/
theorem read_h (S : Stash w b A k ps W) (hk : k ≤ 10000000) (blk i : Int) (hb : W64 blk) (hi : (Lit.int .i64 i).wf = true) :
    Calls Tryz.prog 95 #[.pointer (some ⟨b, 0, none⟩), .agg #[.int .u64 blk, .int .i64 i]] W fun e w' => e = .returned (.tuple #[.int .u64 (A.read blk i).2.1, .int .i64 (A.read blk i).2.2]) ∧ Stash w b (A.read blk i).1 (k + 1) ps w' :=
  (kin_read S.kin hk blk i hb hi).mono fun e w' ⟨he, h1, h2⟩ => ⟨he, S.but h1 h2⟩
theorem write_h (S : Stash w b A k ps W) (hk : k ≤ 10000000) (blk i v : Int) (hb : W64 blk) (hi : (Lit.int .i64 i).wf = true) (hv : W64 v) :
    Calls Tryz.prog 28 #[.pointer (some ⟨b, 0, none⟩), .agg #[.int .u64 blk, .int .i64 i], .int .u64 v] W fun e w' => e = .returned (.int .i64 (A.write blk i v).2) ∧ Stash w b (A.write blk i v).1 (k + 1) ps w' :=
  (kin_write S.kin hk blk i v hb hi hv).mono fun e w' ⟨he, h1, h2⟩ => ⟨he, S.but h1 h2⟩
theorem lay_h (S : Stash w b A k ps W) (hk : k ≤ 10000000) {v : Value} {ws : List Int} (hv : WordsAt W v ws) (ha : ∀ q, v.ownBlock = some q → q ∈ feet ps) (hw : ∀ x, x ∈ ws → W64 x) :
    Calls Tryz.prog 40 #[.pointer (some ⟨b, 0, none⟩), v] W fun e w' => e = .returned (.tuple #[.int .u64 (A.lay ws).2.1, .int .i64 (A.lay ws).2.2]) ∧ Stash w b (A.lay ws).1 (k + 1) ps w' :=
  (kin_lay S.kin hk hv ha hw).mono fun e w' ⟨he, h1, h2⟩ => ⟨he, S.but h1 h2⟩
/-! ### gears -/
theorem to_h {x v : Value} {l : List Value} {t : TypeId} (S : Stash w b A k (bkP r (.cells (x :: l).toArray t) :: ps) W) (hv : IsFn v) :
    Calls Tryz.prog 101 #[.pointer (some ⟨r, 0, none⟩), v] W fun e w' => e = .returned (.tuple #[]) ∧ Stash w b A k (bkP r (.cells (v :: l).toArray t) :: ps) w' := by
  refine (to_any r v x W hv (cell_h S (List.mem_cons_self ..) rfl) (thaw_h S (List.mem_cons_self ..))).mono ?_
  rintro e w' ⟨he, rfl⟩
  exact ⟨he, poke_h (i := 0) v S⟩
theorem end_h {x : Value} {l : List Value} {t : TypeId} (S : Stash w b A k (bkP r (.cells (x :: l).toArray t) :: ps) W) :
    Calls Tryz.prog 113 #[.pointer (some ⟨r, 0, none⟩)] W fun e w' => e = .returned (.tuple #[]) ∧ Stash w b A k (bkP r (.cells (.nilFunc :: l).toArray t) :: ps) w' := by
  refine (end_any r x W (cell_h S (List.mem_cons_self ..) rfl) (thaw_h S (List.mem_cons_self ..))).mono ?_
  rintro e w' ⟨he, rfl⟩
  exact ⟨he, poke_h (i := 0) .nilFunc S⟩
theorem gdone_h {x : Value} {l : List Value} {t : TypeId} (S : Stash w b A k ps W) (hm : bkP r (.cells (x :: l).toArray t) ∈ ps) (hv : IsFn x) :
    Calls Tryz.prog 72 #[.pointer (some ⟨r, 0, none⟩)] W fun e w' => e = .returned (.bool (idle x)) ∧ W = w' := gdone_any r x W hv (cell_h S hm rfl)
/-! ### words of slots -/
theorem top_any (a : Int) (w : World) (h : W64 a) :
    Calls Tryz.prog 155 #[.int .u64 a] w fun e w' => e = .returned (.int .u64 (a / 1048576)) ∧ w = w' := by
  obtain ⟨h0, h1⟩ := h
  go_enter Tryz.func155, Tryz.ntmps155
  go_wp2
  go_ret
  exact ⟨rfl, rfl⟩
set_option maxRecDepth 100000 in
set_option maxHeartbeats 4000000 in
/-- The words HoldA, HoldB of a slot. -/
theorem Word_f (seg : Int) (s : Nat) (f : Int) (w : World) (h : s < 255) (hz : (seg != 0) = true) (hf : f = 3 ∨ f = 4) :
    Calls Tryz.prog 115 #[.agg #[.int .u64 seg, .int .i64 s], .int .i64 f] w fun e w' => e = .returned (.tuple #[.agg #[.int .u64 seg, .int .i64 (5 * (ofN s : Int) + f)], .bool true]) ∧ Frm.Turn [] w w' := by
  have H1 := Lib.hid (fun W => Segment_n s W h)
  have H2 := Lib.hid (fun W => isThere_n seg W hz)
  obtain ⟨q1, q2, q3, q4, q5⟩ := sg_facts h
  have b0 : (0 : Int) ≤ (ofN s : Int) := by omega
  have b1 : (ofN s : Int) ≤ 127 := by omega
  have HT : Hid (∀ o o', Frm.Turn [] w ((w.alloc o).alloc o')) := Lib.hid (fun o o' => ((Frm.Turn.refl [] w).alloc o).alloc o')
  rw [show (5 : Int) * (ofN s : Int) + f = (ofN s : Int) * 5 + f by omega]
  generalize (ofN s : Int) = x at H1 b0 b1 ⊢
  generalize (sgN s : Int) = g at H1
  generalize (s : Int) = y at H1 ⊢
  clear q1 q2 q3 q4 q5 h hz
  rcases hf with rfl | rfl
  · go_enter Tryz.func115, Tryz.ntmps115
    go_wp2_with (first
      | (go_at_call 137; (with_reducible refine (H1.out _).mono ?_); rintro e w1 ⟨rfl, rfl⟩)
      | (go_at_call 138; (with_reducible refine (H2.out _).mono ?_); rintro e w1 ⟨rfl, rfl⟩))
    refine bodyPost_ret (v := .tuple #[.agg #[.int .u64 seg, .int .i64 (x * 5 + 3)], .bool true]) (by simp [results, Tryz.results115, go_sem]) rfl ⟨rfl, ?_⟩
    first | exact HT.out _ _ | exact ((HT.out _ _).setCell (p := ⟨w.heap.size + 1, 0, none⟩) (.inr (by show w.heap.size ≤ w.heap.size + 1; omega)) _).setCell (p := ⟨w.heap.size + 1, 1, none⟩) (.inr (by show w.heap.size ≤ w.heap.size + 1; omega)) _
  · go_enter Tryz.func115, Tryz.ntmps115
    go_wp2_with (first
      | (go_at_call 137; (with_reducible refine (H1.out _).mono ?_); rintro e w1 ⟨rfl, rfl⟩)
      | (go_at_call 138; (with_reducible refine (H2.out _).mono ?_); rintro e w1 ⟨rfl, rfl⟩))
    refine bodyPost_ret (v := .tuple #[.agg #[.int .u64 seg, .int .i64 (x * 5 + 4)], .bool true]) (by simp [results, Tryz.results115, go_sem]) rfl ⟨rfl, ?_⟩
    first | exact HT.out _ _ | exact ((HT.out _ _).setCell (p := ⟨w.heap.size + 1, 0, none⟩) (.inr (by show w.heap.size ≤ w.heap.size + 1; omega)) _).setCell (p := ⟨w.heap.size + 1, 1, none⟩) (.inr (by show w.heap.size ≤ w.heap.size + 1; omega)) _
set_option maxRecDepth 100000 in
/-- The document's. -/
theorem RWord_f (seg : Int) (s : Nat) (f : Int) (W : World) (h : s < 255) (f0 : 0 ≤ f) (f1 : f ≤ 10) : Calls Tryz.prog 27 #[.agg #[.int .u64 seg, .int .i64 s], .int .i64 f] W fun e w' => e = .returned (.agg #[.int .u64 seg, .int .i64 (5 * (ofN s : Int) + f)]) ∧ Frm.Turn [] W w' := by
  have H1 := Lib.hid (fun W => RSegment_any s W h)
  obtain ⟨q1, q2, q3, q4, q5⟩ := sg_facts h
  have b0 : (0 : Int) ≤ (ofN s : Int) := by omega
  have b1 : (ofN s : Int) ≤ 127 := by omega
  have HT : Hid (∀ o o', Frm.Turn [] W ((W.alloc o).alloc o')) := Lib.hid (fun o o' => ((Frm.Turn.refl [] W).alloc o).alloc o')
  generalize (ofN s : Int) = x at H1 b0 b1 ⊢
  generalize (sgN s : Int) = g at H1
  generalize (s : Int) = y at H1 ⊢
  clear q1 q2 q3 q4 q5 h
  go_enter Tryz.func27, Tryz.ntmps27
  go_wp2_with (first
    | (go_at_call 74; (with_reducible refine (H1.out _).mono ?_); rintro e w1 ⟨rfl, rfl⟩))
  have hn := World.alloc_heap_new (W.alloc (.cells #[.int .u64 seg, .int .i64 y] 83)) (.cells #[.int .u64 seg, .int .i64 (5 * x + f)] 80)
  rw [World.size_alloc] at hn
  have hld := load_adr hn
  exact bodyPost_ret (v := .agg #[.int .u64 seg, .int .i64 (5 * x + f)]) (by simp [results, Tryz.results27, asAddr, hld, Act.put]) rfl ⟨rfl, HT.out _ _⟩
/-! ### what the machines have in common -/
set_option maxRecDepth 100000 in
set_option maxHeartbeats 4000000 in
theorem hwrite_any {seg v f : Int} {s : Nat} (S : Stash w b A k ps W) (hk : k ≤ 10000000) (h1 : W.cell? ⟨r, 1, none⟩ = some (.pointer (some ⟨b, 0, none⟩))) (h2 : W.cell? ⟨r, 2, none⟩ = some (.int .u64 seg)) (h3 : W.cell? ⟨r, 3, none⟩ = some (.int .i64 s))
    (hs : s < 255) (hz : seg ≠ 0) (h64 : W64 seg) (hf : f = 3 ∨ f = 4) (hv : W64 v) :
    Calls Tryz.prog 130 #[.pointer (some ⟨r, 0, none⟩), .int .i64 f, .int .u64 v] W fun e w' => e = .returned (.tuple #[]) ∧ Stash w b (A.write seg (5 * (ofN s : Int) + f) v).1 (k + 1) ps w' := by
  have HWD := Lib.hid (fun W => Word_f seg s f W hs (by simpa using hz) hf)
  have hof : (ofN s : Int) ≤ 127 := by have := (sg_facts hs).2.2; omega
  have HWR := Lib.hid (fun W' (hT : Frm.Turn [] W W') => write_h (S.still hT) hk seg (5 * (ofN s : Int) + f) v h64 (wf_small (by omega) (by omega)) hv)
  have HC1 : Hid (∀ W', Frm.Turn [] W W' → W'.cell? ⟨r, 1, none⟩ = some (.pointer (some ⟨b, 0, none⟩))) := Lib.hid (fun W' hT => hT.cell h1 (by simp))
  have HT0 := Lib.hid (Frm.Turn.refl [] W)
  clear hs hz h64 hf hv S
  generalize (A.write seg (5 * (ofN s : Int) + f) v).1 = A' at HWR ⊢
  generalize (A.write seg (5 * (ofN s : Int) + f) v).2 = e' at HWR
  generalize 5 * (ofN s : Int) + f = x at HWD HWR
  go_enter Tryz.func130, Tryz.ntmps130
  go_upto_region 3 with (go_at_call 115; (with_reducible refine (HWD.out _).mono ?_); rintro e w1 ⟨rfl, hT⟩; have HT1 := Lib.hid hT; clear hT)
  have hn := World.alloc_heap_new w1 (.cells #[.int .u64 seg, .int .i64 x] 80)
  have hT2 := HT1.out.alloc (.cells #[.int .u64 seg, .int .i64 x] 80)
  have c1 := HC1.out _ hT2
  have p0 := (Frm.cell_row _ _ 0 _ _ _ hn).trans rfl
  have p1 := (Frm.cell_row _ _ 1 _ _ _ hn).trans rfl
  have HW2 := Lib.hid (HWR.out _ hT2.drew)
  clear hn hT2 HWR HC1
  go_region_with (go_at_call 28; (with_reducible refine (HW2.out).mono ?_); rintro e w2 ⟨rfl, hS⟩; have HS2 := Lib.hid hS; clear hS)
  all_goals go_wp2_with fail
  all_goals go_end0
  all_goals exact ⟨rfl, HS2.out⟩
theorem rootNow_any (S : Stash w b A k ps W) (hk : k ≤ 10000000) (h1 : W.cell? ⟨r, 1, none⟩ = some (.pointer (some ⟨b, 0, none⟩))) :
    Calls Tryz.prog 128 #[.pointer (some ⟨r, 0, none⟩)] W fun e w' => e = .returned (.int .u64 (A.read 0 0).2.1) ∧ Stash w b (A.read 0 0).1 (k + 1) ps w' := by
  have HRD := Lib.hid (fun W' (hT : Frm.Turn [] W W') => read_h (S.still hT) hk 0 0 w64_zero (wf_small (by omega) (by omega)))
  have HT0 := Lib.hid (fun o => (Frm.Turn.refl [] W).alloc o)
  have HTR := Lib.hid (Frm.Turn.refl [] W)
  clear S
  generalize (A.read 0 0).1 = A' at HRD ⊢
  generalize (A.read 0 0).2.1 = x at HRD ⊢
  generalize (A.read 0 0).2.2 = y at HRD
  go_enter Tryz.func128, Tryz.ntmps128
  go_wp2_with (go_at_call 95; (with_reducible refine (HRD.out _ (by first | exact HTR.out | exact HT0.out _)).mono ?_); rintro e w1 ⟨rfl, hS⟩)
  go_ret
  exact ⟨rfl, hS⟩
end Hld
end Go.Proofs.YtlghinjggkgfmaaGreat
