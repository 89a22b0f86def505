/- What the laws of layer 13 go by: places, those that enter one behind the other, a collect behind them. -/
import Derived.Test.YthnmnpjjpckeeaaCollCrew
import Derived.Test.YthnmnpjjpckeeaaCollSegsWalk
import Derived.Test.YthnmnpjjpckeeaaCountBackMem
import Derived.Test.YthnmnpjjpckeeaaCountTopsWalk2
import Derived.Test.YthnmnpjjpckeeaaCollFindPlain
import Derived.Laws.Tables
set_option linter.unusedVariables false
set_option linter.unusedSimpArgs false
namespace Go.Proofs.Ythnmnpjjpckeeaa
namespace Col
open Go.RowKit Go.Maps Arn Pac Clm Cnt

variable {w W W' : World} {r b n k N kh m : Nat} {K : List Nat} {A : Ar} {C : Co} {v : Value} {f : Nat → Nat → Int} {base : Nat} {X X' : List (Nat × Obj)} {rr qq : Nat → Nat} {c : Nat → Option Ct} {sl : Nat → Nat} {ohs : Obj}
/-! ### rows made -/
theorem under_cts : Try.prog.underlying 37 = some (.slice 41) := by kernel_rfl
theorem info_cts : (Try.prog.info? 41).map (fun i => (i.zero, i.size, i.bytes)) = some (some (.pointer none), 1, 8) := by kernel_rfl
theorem under_bools : Try.prog.underlying 38 = some (.slice 4) := by kernel_rfl
theorem info_bool : (Try.prog.info? 4).map (fun i => (i.zero, i.size, i.bytes)) = some (some (.bool false), 1, 1) := by kernel_rfl
theorem made_cts (x n : Nat) (hn : n ≤ 60000) (w : World) : (Instr.makeSlice 37 (.int .i64 (n : Int)) (.int .i64 (n : Int))).run Try.prog w = .ok (.slice (some ⟨w.heap.size, 0, none⟩) n n) (w.alloc (oPtrs (fun _ => x) (fun _ => none) n)) := by
  obtain ⟨i, h1, h2, h3, h4⟩ := Dr.info_parts info_cts
  have hr := run_make (P := Try.prog) w 37 41 i (.pointer none) under_cts h1 h2 .i64 .i64 n n (by omega) (by omega) (by rw [h4]; omega) (by omega)
  simp only [Int.toNat_natCast, h3, Nat.mul_one] at hr
  have e : madeCells #[.pointer none] n = (ptrsC (fun _ => x) (fun _ => none) n).toArray := by
    apply Array.toList_inj.1
    rw [toList_madeCells_one]
    simp only [ptrsC]
    apply List.ext_getElem?
    intro j
    by_cases h : j < n <;> simp [h]
  unfold oPtrs
  rw [← e]
  exact hr
theorem made_bools (n : Nat) (hn : n ≤ 60000) (w : World) : (Instr.makeSlice 38 (.int .i64 (n : Int)) (.int .i64 (n : Int))).run Try.prog w = .ok (.slice (some ⟨w.heap.size, 0, none⟩) n n) (w.alloc (oBools (fun _ => false) n)) := by
  obtain ⟨i, h1, h2, h3, h4⟩ := Dr.info_parts info_bool
  have hr := run_make (P := Try.prog) w 38 4 i (.bool false) under_bools h1 h2 .i64 .i64 n n (by omega) (by omega) (by rw [h4]; omega) (by omega)
  simp only [Int.toNat_natCast, h3, Nat.mul_one] at hr
  have e : madeCells #[.bool false] n = (bools (fun _ => false) n).toArray := by
    apply Array.toList_inj.1
    rw [toList_madeCells_one]
    simp only [bools]
    apply List.ext_getElem?
    intro j
    by_cases h : j < n <;> simp [h]
  unfold oBools
  rw [← e]
  exact hr
/-! ### two places -/
theorem size_u64 (w : World) : (sizeOf 25).run Try.prog w = .ok 1 w := by
  have hi : (Try.prog.info? 25).map (·.size) = some 1 := by kernel_rfl
  cases hq : Try.prog.info? 25 with
  | none => simp [hq] at hi
  | some i =>
    have hs : i.size = 1 := by simpa [hq] using hi
    simp [sizeOf, typeInfo, hq, hs]
theorem size_int (w : World) : (sizeOf 3).run Try.prog w = .ok 1 w := by
  have hi : (Try.prog.info? 3).map (·.size) = some 1 := by kernel_rfl
  cases hq : Try.prog.info? 3 with
  | none => simp [hq] at hi
  | some i =>
    have hs : i.size = 1 := by simpa [hq] using hi
    simp [sizeOf, typeInfo, hq, hs]
theorem equal2_at (D : Nat) (w : World) (a0 a1 b0 b1 : Int)
    (e0 : ∀ x y : Int, (Op.equalIn D 25 (.int .u64 x) (.int .u64 y)).run Try.prog w = .ok (x == y) w)
    (e1 : ∀ x y : Int, (Op.equalIn D 3 (.int .i64 x) (.int .i64 y)).run Try.prog w = .ok (x == y) w) :
    (Op.equalIn (D + 1) 44 (.agg #[.int .u64 a0, .int .i64 a1]) (.agg #[.int .u64 b0, .int .i64 b1])).run Try.prog w = .ok (a0 == b0 && a1 == b1) w := by
  have p0 : ∀ x y : Int, (part 25 #[.int .u64 x, .int .i64 y] 0).run Try.prog w = .ok (.int .u64 x) w := fun x y => by kernel_rfl
  have p1 : ∀ x y : Int, (part 3 #[.int .u64 x, .int .i64 y] 1).run Try.prog w = .ok (.int .i64 y) w := fun x y => by kernel_rfl
  simp only [Op.equalIn, Sem.run_bind, run_underlying Try.underlying44, Result.andThen_ok, size_u64, size_int, Std.Legacy.Range.forIn_eq_forIn_range', Std.Legacy.Range.size]
  cases h0 : (a0 == b0) <;> cases h1 : (a1 == b1) <;> simp [List.range', Sem.run_bind, p0, p1, e0, e1, h0, h1, size_u64, size_int]
theorem equal2 (w : World) (a0 a1 b0 b1 : Int) (b : Bool) (h : (a0 == b0 && a1 == b1) = b) :
    (Op.equalIn 10000 44 (.agg #[.int .u64 a0, .int .i64 a1]) (.agg #[.int .u64 b0, .int .i64 b1])).run Try.prog w = .ok b w := by
  rw [← h]
  exact equal2_at 9999 w _ _ _ _ (fun x y => run_equalIn_int w 9998 25 .u64 .u64 x y Try.underlying25) (fun x y => run_equalIn_int w 9998 3 .i64 .i64 x y Try.underlying3)
theorem row_cells {W : World} {base size n : Nat} {e : TypeId} {v : Value} {xs : List Value} (h : W.ownsRow base e size v n xs) (hn : n ≠ 0) : ∃ g c, v = .slice (some ⟨g, 0, none⟩) n c ∧ ∀ (i : Nat) x, xs[i]? = some x → W.cell? ⟨g, i, none⟩ = some x := by
  rcases h.2 with ⟨_, hz⟩ | ⟨g, cap, cur, rfl, h3, h4, h5, h6, h7, h8⟩
  · exact absurd hz hn
  · refine ⟨g, cap, rfl, fun i x hx => ?_⟩
    rw [Frm.cell_row _ _ i _ _ _ h4]
    rw [← h8, List.getElem?_take] at hx
    split at hx
    · simpa using hx
    · cases hx
/-- Segments, with what the laws of layer 13 need of it. -/
theorem segsN (n : Nat) (w0 w : World) (ht : Frm.Turn [] w0 w) (hn : 0 < n) (h8 : n ≤ 8) : Calls Try.prog 6 #[.int .i64 n] w fun e W =>
    ∃ b CS kh c ohs A k K, e = .returned (.tuple #[.pointer (some ⟨b, 0, none⟩), .agg CS, .slice (some ⟨kh, 0, none⟩) n c]) ∧ CS.size = 20 ∧ CS.all (·.oneCell') = true ∧ Kin w0 b K A k W ∧ kh ∈ K ∧ W.heap[kh]? = some ohs ∧ HsO ohs kh n ∧ w0.heap.size ≤ kh ∧ k ≤ 16 ∧ SegA A n zF ∧ A.t.reads = 0 := by
  refine (Col.Segments_any n w (by omega)).mono ?_
  rintro e W ⟨b, u, G, A, k, hv, rfl, h1, h2, h3, h4, h5, h5', h6, h7, h8, h9⟩
  obtain ⟨CS, rfl, z1, z2⟩ := h6.row
  obtain ⟨kh, c, o, rfl, g1, g2, g3⟩ := hs_obj h7 (by omega)
  have := ht.size
  exact ⟨b, CS, kh, c, o, A, k, _, rfl, z1, z2, kin_base h1 ht, by simp [Value.ownBlock], g1, g2, by omega, by omega, h3, h5'⟩
set_option maxRecDepth 100000 in
set_option maxHeartbeats 4000000 in
/-- place of law 13. -/
theorem place13 {kh c : Nat} (s : Nat) (z : Int) (W : World) (hz : z % 15 = s) (z0 : 0 ≤ z) (z1 : z < 256) (hg : sgN s < n) (hn : n ≤ 8) (h : HsAt W kh n) :
    Calls Try.prog 14 #[.slice (some ⟨kh, 0, none⟩) n c, .int .u8 z] W fun e w' => e = .returned (.agg #[.int .u64 (hS (sgN s)), .int .i64 s]) ∧ Frm.Turn [] W w' := by
  have hs : s < 255 := by omega
  have HS := Lib.hid (fun W => RSegment_any s W hs)
  have hc := fun o => ((Frm.Turn.refl [] W).alloc o).cell (h _ hg) (by simp)
  have HT : Hid (∀ o, Frm.Turn [] W (W.alloc o)) := Lib.hid (fun o => (Frm.Turn.refl [] W).alloc o)
  have HT2 : Hid (∀ o a u a' u', a.block = W.heap.size → a'.block = W.heap.size → Frm.Turn [] W (((W.alloc o).setCell a u).setCell a' u')) := Lib.hid (fun o a u a' u' h1 h2 => ((HT.out o).setCell (.inr (by omega)) u).setCell (.inr (by omega)) u')
  have g3 : ¬ (n : Int) ≤ (sgN s : Int) := by omega
  have g4 : (0 : Int) ≤ (sgN s : Int) := by omega
  have g5 : (sgN s : Int) < (n : Int) := by omega
  have g6 : (sgN s : Int) ≤ 8 := by omega
  have e15 : IntKind.u8.wrap (z % 15) = (s : Int) := by rw [hz, IntKind.wrap_u8]; omega
  have w15 : IntKind.i64.wrap (s : Int) = (s : Int) := by rw [IntKind.wrap_i64]; omega
  have z5 : z.tmod 15 = (s : Int) := by rw [Int.tmod_eq_emod_of_nonneg z0]; exact hz
  have s0 : (0 : Int) ≤ (s : Int) := by omega
  have s1 : (s : Int) < 15 := by omega
  clear h hs hg
  go_enter Try.func14, Try.ntmps14
  go_wp2_with (go_at_call 20; (with_reducible refine (HS.out _).mono ?_); rintro e w1 ⟨rfl, rfl⟩)
  have hld := load_plc (World.alloc_heap_new W (.cells #[.int .u64 (hS (sgN s)), .int .i64 s] 44))
  refine bodyPost_ret (v := .agg #[.int .u64 (hS (sgN s)), .int .i64 s]) (by simp [results, Try.results14, asAddr, hld, Act.put]) rfl ⟨rfl, ?_⟩
  exact HT.out _

/-! ### those that enter one behind the other -/
/-- m have entered. -/
def EntR (w : World) (b : Nat) (X : List (Nat × Obj)) (n : Nat) (sl : Nat → Nat) (m : Nat) (W : World) : Prop :=
  ∃ rr qq c A k, Crew w b X 1 rr qq c A k W ∧ k ≤ 20 + 10 * m ∧ SegA A n (fun g j => ((tF sl m g j : Nat) : Int))
/-- While the next one enters: behind j steps. -/
def EntM (w : World) (b : Nat) (X : List (Nat × Obj)) (n : Nat) (sl : Nat → Nat) (m r : Nat) (j : Nat) (W : World) : Prop :=
  ∃ rr qq c A k, Crew w b X 1 rr qq c A k W ∧ rr 0 = r ∧ c 0 = some (enC (sl m) j) ∧ k ≤ 20 + 10 * m + j ∧ SegA A n (fun g y => ((tF sl m g y + con (sl m) 0 (min j (kN (sl m))) g y : Nat) : Int))
theorem ent_first {K : List Nat} (h : Kin w b K A k W) (hxs : ∀ p, p ∈ X → p.1 ∈ K ∧ W.heap[p.1]? = some p.2 ∧ w.heap.size ≤ p.1) (hd : (X.map Prod.fst).Nodup) {x : Nat} (hx : x ∈ K) (hk : k ≤ 20) (I : SegA A n zF) : EntR w b X n sl 0 W := by
  refine ⟨_, _, _, A, k, crew_new h hxs hd hx, hk, ?_⟩
  rw [tF_zero]; exact I
theorem ent_start (h : EntR w b X n sl m W) (hs : sl m < 255) {q : Nat} (hm : MadeC W b ⟨hS (sgN (sl m)), sl m, 0, kN (sl m), 1⟩ r q W') : EntM w b X n sl m r 0 W' := by
  obtain ⟨rr, qq, c, A, k, S, hk, I⟩ := h
  have e : (⟨hS (sgN (sl m)), sl m, 0, kN (sl m), 1⟩ : Ct) = enC (sl m) 0 := by unfold enC; simp
  rw [e] at hm
  refine ⟨_, _, _, A, k, S.made (i := 0) hm (enC_fit hs 0), upd_at _ _ _, upd_at _ _ _, by omega, ?_⟩
  have e2 : (fun g y => ((tF sl m g y + con (sl m) 0 (min 0 (kN (sl m))) g y : Nat) : Int)) = fun g y => ((tF sl m g y : Nat) : Int) := by
    funext g y
    rw [Nat.zero_min, con_none (Nat.le_refl _)]; rfl
  rw [e2]; exact I
theorem ent_step {j : Nat} (h : EntM w b X n sl m r j W) (hs : sl m < 255) (hn : sgN (sl m) < n) (hm : m ≤ 40) (hj : j ≤ 20) :
    Calls Try.prog 16 #[.pointer (some ⟨r, 0, none⟩)] W fun e w' => e = .returned (.tuple #[]) ∧ EntM w b X n sl m r (j + 1) w' := by
  obtain ⟨rr, qq, c, A, k, S, rfl, hc, hk, I⟩ := h
  refine (S.step (by omega) (by omega) hc).mono ?_
  rintro e w' ⟨he, S'⟩
  refine ⟨he, rr, qq, _, _, _, S', rfl, ?_, by omega, enC_seg I hs hn (fun g j => by have := tF_le sl m g j; omega)⟩
  rw [upd_at, enC_step]
theorem ent_end (h : EntM w b X n sl m r 9 W) (hs : sl m < 255) : EntR w b X n sl (m + 1) W := by
  obtain ⟨rr, qq, c, A, k, S, _, hc, hk, I⟩ := h
  refine ⟨rr, qq, c, A, k, S, by omega, ?_⟩
  have hk9 : min 9 (kN (sl m)) = kN (sl m) := by have := (kN_le hs).2; omega
  rw [hk9] at I
  exact I
theorem EntR.x (h : EntR w b X n sl m W) {x : Nat} {o : Obj} (hx : (x, o) ∈ X) : W.heap[x]? = some o := by
  obtain ⟨rr, qq, c, A, k, S, _⟩ := h
  exact S.x hx
theorem EntR.since (h : EntR w b X n sl m W) : Frm.Turn [] w W := by
  obtain ⟨rr, qq, c, A, k, S, _⟩ := h
  exact S.kin.turn
theorem EntR.turn (h : EntR w b X n sl m W) (ht : Frm.Turn [] W W') : EntR w b X n sl m W' := by
  obtain ⟨rr, qq, c, A, k, S, h1, h2⟩ := h
  exact ⟨rr, qq, c, A, k, S.turn ht, h1, h2⟩
/-! ### a collect when nothing turns -/
theorem lo_fin : ∀ g : Fin 4, ∀ v : Fin 16, loN g.val v.val ≤ 1000 := by decide +kernel
/-- So many steps. -/
def iterO (n : Nat) (f : Nat → Nat → Int) : Nat → Co
  | 0 => Co.new
  | j + 1 => (iterO n f j).step n f
theorem iter_fit (hn : n ≤ 4) : ∀ j, (iterO n f j).Fit n
  | 0 => fit_new n
  | j + 1 => fit_step hn (iter_fit hn j)
/-- How many of the first j steps read. -/
def rdO (n : Nat) (f : Nat → Nat → Int) : Nat → Nat
  | 0 => 0
  | j + 1 => rdO n f j + (if (iterO n f j).ph = 2 then 0 else 1)
/-- Behind j steps, of R reads and those of the steps. -/
def ColR (w : World) (b : Nat) (X : List (Nat × Obj)) (n : Nat) (f : Nat → Nat → Int) (k0 R r j : Nat) (W : World) : Prop :=
  ∃ v V rr qq c A k, CoObj w.heap.size r b (iterO n f j) v V ∧ Crew w b (V ++ X) 1 rr qq c A k W ∧ k ≤ k0 + j ∧ SegA A n f ∧ A.t.reads = R + rdO n f j
theorem col_step {k0 R j : Nat} (h : ColR w b X n f k0 R r j W) (hn : n ≤ 4) (hk : k0 + j ≤ 100000) : Calls Try.prog 12 #[.pointer (some ⟨r, 0, none⟩)] W fun e w' => e = .returned (.tuple #[]) ∧ ColR w b X n f k0 R r (j + 1) w' := by
  obtain ⟨v, V, rr, qq, c, A, k, O, S, h1, h2, h3⟩ := h
  have F := iter_fit (f := f) hn j
  refine (co_step O S (by omega) hn F h2).mono ?_
  rintro e w' ⟨he, v', V', O', S'⟩
  obtain ⟨a1, a2, _⟩ := acc_seg hn F h2
  refine ⟨he, v', V', rr, qq, c, _, _, O', S', by omega, a1, ?_⟩
  rw [a2, h3]
  show _ = R + (rdO n f j + _)
  omega
theorem ColR.turn {k0 R j : Nat} (h : ColR w b X n f k0 R r j W) (ht : Frm.Turn [] W W') : ColR w b X n f k0 R r j W' := by
  obtain ⟨v, V, rr, qq, c, A, k, O, S, h1⟩ := h
  exact ⟨v, V, rr, qq, c, A, k, O, S.turn ht, h1⟩
theorem col_new {k0 R : Nat} (S : Crew w b X 1 rr qq c A k W) (hk : k ≤ k0) (I : SegA A n f) (hR : A.t.reads = R) : Calls Try.prog 7 #[.pointer (some ⟨b, 0, none⟩)] W fun e w' => ∃ r, e = .returned (.pointer (some ⟨r, 0, none⟩)) ∧ ColR w b X n f k0 R r 0 w' := by
  refine (co_new S).mono ?_
  rintro e w' ⟨r, V, he, O, S', _⟩
  exact ⟨r, he, _, V, rr, qq, c, A, k, O, S', by omega, I, hR⟩
theorem ColR.done {k0 R j : Nat} (h : ColR w b X n f k0 R r j W) (hn : n ≤ 4) : Calls Try.prog 9 #[.pointer (some ⟨r, 0, none⟩)] W fun e w' => e = .returned (.bool (decide ((iterO n f j).ph = 2))) ∧ W = w' := by
  obtain ⟨v, V, rr, qq, c, A, k, O, S, h1⟩ := h
  exact co_done O S (iter_fit hn j).ph
theorem ColR.places {k0 R j : Nat} (h : ColR w b X n f k0 R r j W) (hn : n ≤ 4) : Calls Try.prog 17 #[.pointer (some ⟨r, 0, none⟩)] W fun e w' => ∃ u, e = .returned u ∧ w'.ownsRow W.heap.size 44 2 u (iterO n f j).L.length (plCells (iterO n f j).L) ∧ Frm.Turn [] W w' := by
  obtain ⟨v, V, rr, qq, c, A, k, O, S, h1⟩ := h
  have F := iter_fit (f := f) hn j
  refine co_places O S ?_
  have h2 := F.few
  have h3 : (iterO n f j).pos ≤ 65536 := by
    have hp := pow16 (show (iterO n f j).g ≤ 4 by have := F.gn; omega)
    by_cases p0 : (iterO n f j).ph = 0
    · rw [pos_0 p0]; omega
    · by_cases p1 : (iterO n f j).ph = 1
      · rw [pos_1 p1]
        obtain ⟨l1, l2, l3, l4⟩ := F.look p1
        obtain ⟨_, w2, _, _⟩ := way (show (iterO n f j).g < 4 by omega) l2 l3
        have h9 := lo_fin ⟨(iterO n f j).g, by omega⟩ ⟨(iterO n f j).node, by have : 2 ^ (iterO n f j).g ≤ 2 ^ 3 := Nat.pow_le_pow_right (by omega) (by omega); omega⟩
        dsimp only at h9
        omega
      · rw [pos_2 (by have := F.ph; omega)]; omega
  omega
theorem ColR.seg {k0 R j g : Nat} (h : ColR w b X n f k0 R r j W) (hg : g < 8) : Calls Try.prog 19 #[.pointer (some ⟨r, 0, none⟩), .int .i64 g] W fun e w' => e = .returned (.int .u64 (sv (iterO n f j).m g)) ∧ W = w' := by
  obtain ⟨v, V, rr, qq, c, A, k, O, S, h1⟩ := h
  exact seg_in (co_at O S) hg
theorem ColR.tally {k0 R j : Nat} (h : ColR w b X n f k0 R r j W) : ∃ t0 t1 t3 t4 t5 : Int, Calls Try.prog 8 #[.pointer (some ⟨b, 0, none⟩)] W fun e w' => e = .returned (.agg #[.int .i64 t0, .int .i64 t1, .int .i64 ((R + rdO n f j : Nat) : Int), .int .i64 t3, .int .i64 t4, .int .i64 t5]) ∧ Frm.Turn [] W w' := by
  obtain ⟨v, V, rr, qq, c, A, k, O, S, h1, h2, h3⟩ := h
  have := crew_reads S
  rw [h3] at this
  exact this
theorem ColR.x {k0 R j : Nat} (h : ColR w b X n f k0 R r j W) {x : Nat} {o : Obj} (hx : (x, o) ∈ X) : W.heap[x]? = some o := by
  obtain ⟨v, V, rr, qq, c, A, k, O, S, _⟩ := h
  exact S.x (List.mem_append_right _ hx)
theorem ColR.since {k0 R j : Nat} (h : ColR w b X n f k0 R r j W) : Frm.Turn [] w W := by
  obtain ⟨v, V, rr, qq, c, A, k, O, S, _⟩ := h
  exact S.kin.turn
theorem ColR.ent {k0 R j : Nat} (h : ColR w b X n f k0 R r j W) : ∃ rr qq c A k, Crew w b X 1 rr qq c A k W ∧ k ≤ k0 + j ∧ SegA A n f := by
  obtain ⟨v, V, rr, qq, c, A, k, O, S, h1, h2, _⟩ := h
  exact ⟨rr, qq, c, A, k, Crew.drop S, h1, h2⟩
end Col
end Go.Proofs.Ythnmnpjjpckeeaa
