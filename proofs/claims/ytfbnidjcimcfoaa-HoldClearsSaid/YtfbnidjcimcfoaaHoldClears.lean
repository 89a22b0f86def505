/- The walk of HoldClears. -/
import Derived.Test.YtfbnidjcimcfoaaHoldFirst
import Derived.Test.YtfbnidjcimcfoaaHoldClearsPlain
import Derived.Test.YtfbnidjcimcfoaaArenaClone
import Derived.Laws.StructEq
set_option linter.unusedVariables false
set_option linter.unusedSimpArgs false
namespace Go.Proofs.Ytfbnidjcimcfoaa
namespace Hld
open Go.RowKit Go.Maps Arn Pac Clm Cnt Sta

variable {w W W' : World} {b k n r p : Nat} {A A2 : Ar} {ps : List Part} {M2 : Mem} {b2 : Nat} {val : Nat → Nat → Int}
/-! ### another arena beside it -/
def arP (b2 : Nat) (M2 : Mem) (A2 : Ar) : Part := ⟨M2.foot b2, [], fun W => ArAt W b2 M2 A2⟩
theorem arP_fra (b2 : Nat) (M2 : Mem) (A2 : Ar) : (arP b2 M2 A2).Fra := fun W W' F h ht h1 _ => ArAt.turn h ht (fun k hk => h1 k hk)
theorem clone_h (S : Stash w b A k ps W) : Calls Try.prog 20 #[.pointer (some ⟨b, 0, none⟩)] W fun e w' => ∃ b2 M2, e = .returned (.pointer (some ⟨b2, 0, none⟩)) ∧ Stash w b A k (arP b2 M2 A :: ps) w' := by
  obtain ⟨M, hs, _⟩ := S.kin
  refine (aclone_any hs.at_).mono ?_
  rintro e w' ⟨b2, M2, he, h1, h2, h3⟩
  exact ⟨b2, M2, he, S.add h3 (arP_fra _ _ _) h1 (fun x hx => ⟨h2 x hx, h1.lt x hx⟩) (by simp [arP]) (by simp [arP])⟩
theorem read2_h {n2 : Nat} (S : Stash w b A k (arP b2 M2 A2 :: ps) W) (hL : A2.Low n2) (hB : A2.births ≤ n2) (hn : n2 ≤ 100000) (blk i : Int) (hb : W64 blk) (hi : (Lit.int .i64 i).wf = true) :
    Calls Try.prog 13 #[.pointer (some ⟨b2, 0, none⟩), .agg #[.int .u64 blk, .int .i64 i]] W fun e w' => e = .returned (.tuple #[.int .u64 (A2.read blk i).2.1, .int .i64 (A2.read blk i).2.2]) ∧ ∃ M', Stash w b A k (arP b2 M' (A2.read blk i).1 :: ps) w' ∧ (A2.read blk i).1.Low (n2 + 1) ∧ (A2.read blk i).1.births ≤ n2 + 1 := by
  have h1 : Sin w b2 M2 A2 n2 W := ⟨S.on _ (List.mem_cons_self ..), S.low _ (List.mem_cons_self ..), S.kin.turn, hL, hB⟩
  refine (sin_read h1 (by omega) blk i hb hi).mono ?_
  rintro e w' ⟨he, M', k1, k4, k5⟩
  refine ⟨he, M', S.act (p' := arP b2 M' (A2.read blk i).1) k4 (fun x hx => hx) (arP_fra _ _ _) k1.at_ (fun x hx => ?_) (by simp [arP]) (by simp [arP]), k1.low, k1.born⟩
  exact (k5 x hx).imp id (fun h => ⟨h, k1.lt hx⟩)
theorem tally2_h (S : Stash w b A k (arP b2 M2 A2 :: ps) W) : Calls Try.prog 24 #[.pointer (some ⟨b2, 0, none⟩)] W fun e w' => e = .returned (tal A2.t) ∧ Frm.Turn [] W w' := tally_any (S.on _ (List.mem_cons_self ..))
theorem tally_h (S : Stash w b A k ps W) : Calls Try.prog 24 #[.pointer (some ⟨b, 0, none⟩)] W fun e w' => e = .returned (tal A.t) ∧ Frm.Turn [] W w' := by
  obtain ⟨M, hs, _⟩ := S.kin
  exact tally_any hs.at_
/-! ### two places -/
theorem size_u64 (w : World) : (sizeOf 26).run Try.prog w = .ok 1 w := by
  have hi : (Try.prog.info? 26).map (·.size) = some 1 := by kernel_rfl
  cases hq : Try.prog.info? 26 with
  | none => simp [hq] at hi
  | some i =>
    have hs : i.size = 1 := by simpa [hq] using hi
    simp [sizeOf, typeInfo, hq, hs]
theorem size_int (w : World) : (sizeOf 3).run Try.prog w = .ok 1 w := by
  have hi : (Try.prog.info? 3).map (·.size) = some 1 := by kernel_rfl
  cases hq : Try.prog.info? 3 with
  | none => simp [hq] at hi
  | some i =>
    have hs : i.size = 1 := by simpa [hq] using hi
    simp [sizeOf, typeInfo, hq, hs]
theorem equal2_at (D : Nat) (w : World) (a0 a1 b0 b1 : Int)
    (e0 : ∀ x y : Int, (Op.equalIn D 26 (.int .u64 x) (.int .u64 y)).run Try.prog w = .ok (x == y) w)
    (e1 : ∀ x y : Int, (Op.equalIn D 3 (.int .i64 x) (.int .i64 y)).run Try.prog w = .ok (x == y) w) :
    (Op.equalIn (D + 1) 36 (.agg #[.int .u64 a0, .int .i64 a1]) (.agg #[.int .u64 b0, .int .i64 b1])).run Try.prog w = .ok (a0 == b0 && a1 == b1) w := by
  have p0 : ∀ x y : Int, (part 26 #[.int .u64 x, .int .i64 y] 0).run Try.prog w = .ok (.int .u64 x) w := fun x y => by kernel_rfl
  have p1 : ∀ x y : Int, (part 3 #[.int .u64 x, .int .i64 y] 1).run Try.prog w = .ok (.int .i64 y) w := fun x y => by kernel_rfl
  simp only [Op.equalIn, Sem.run_bind, run_underlying Try.underlying36, Result.andThen_ok, size_u64, size_int, Std.Legacy.Range.forIn_eq_forIn_range', Std.Legacy.Range.size]
  cases h0 : (a0 == b0) <;> cases h1 : (a1 == b1) <;> simp [List.range', Sem.run_bind, p0, p1, e0, e1, h0, h1, size_u64, size_int]
theorem equal2 (w : World) (a0 a1 b0 b1 : Int) (b : Bool) (h : (a0 == b0 && a1 == b1) = b) :
    (Op.equalIn 10000 36 (.agg #[.int .u64 a0, .int .i64 a1]) (.agg #[.int .u64 b0, .int .i64 b1])).run Try.prog w = .ok b w := by
  rw [← h]
  exact equal2_at 9999 w _ _ _ _ (fun x y => run_equalIn_int w 9998 26 .u64 .u64 x y Try.underlying26) (fun x y => run_equalIn_int w 9998 3 .i64 .i64 x y Try.underlying3)
theorem same_q {p q : Nat} (hp : p < 3) (hq : q < 3) : (sgQ p == sgQ q && ((p : Int) == (q : Int))) = decide (p = q) := by
  have h : ∀ x y : Fin 3, (sgQ x.val == sgQ y.val && ((x.val : Int) == (y.val : Int))) = decide (x.val = y.val) := by decide
  exact h ⟨p, hp⟩ ⟨q, hq⟩
/-! ### the law -/
def oPl : Obj := .cells #[.int .u64 65537, .int .i64 0, .int .u64 131074, .int .i64 1, .int .u64 131074, .int .i64 2] 36
theorem pl_cells {pl : Nat} (S : Stash w b A k ps W) (hm : bkP pl oPl ∈ ps) {p : Nat} (hp : p < 3) : W.cell? ⟨pl, p * 2, none⟩ = some (.int .u64 (sgQ p)) ∧ W.cell? ⟨pl, p * 2 + 1, none⟩ = some (.int .i64 (p : Int)) := by
  have h : W.heap[pl]? = some oPl := S.on _ hm
  unfold oPl at h
  rw [Frm.cell_row _ _ _ _ _ _ h, Frm.cell_row _ _ _ _ _ _ h]
  have : p = 0 ∨ p = 1 ∨ p = 2 := by omega
  rcases this with rfl | rfl | rfl <;> exact ⟨rfl, rfl⟩
theorem rword_q (p f : Nat) (W : World) (hp : p < 3) (hf : f ≤ 10) : Calls Try.prog 14 #[.agg #[.int .u64 (sgQ p), .int .i64 (p : Int)], .int .i64 (f : Int)] W fun e w' => e = .returned (.agg #[.int .u64 (sgQ p), .int .i64 (ixQ p f : Int)]) ∧ Frm.Turn [] W w' := by
  have h := RWord_f (sgQ p) p (f : Int) W (by omega) (by omega) (by omega)
  rw [adr_q hp f] at h
  exact h
theorem ix_le {p f : Nat} (hf : f < 5) : ixQ p f ≤ 9 := by unfold ixQ; split <;> omega
/-- While the words are written: behind j of them. -/
def CL1 (w : World) (b pl : Nat) (j : Nat) (W : World) : Prop := ∃ A k val, Stash w b A k [bkP pl oPl] W ∧ WV A val ∧ k ≤ 4 + min j 15
theorem cl1_more {pl j : Nat} (h : CL1 w b pl j W) : CL1 w b pl (j + 1) W := by
  obtain ⟨A, k, val, h1, h2, h3⟩ := h
  exact ⟨A, k, val, h1, h2, by omega⟩
theorem cl1_write {pl j : Nat} (h : CL1 w b pl j W) (hj : j < 15) {x : Int} (hx : W64 x) :
    Calls Try.prog 8 #[.pointer (some ⟨b, 0, none⟩), .agg #[.int .u64 (sgQ (j % 3)), .int .i64 (ixQ (j % 3) (j / 3) : Int)], .int .u64 x] W fun e w' => (∃ y, e = .returned (.int .i64 y)) ∧ CL1 w b pl (j + 1) w' := by
  obtain ⟨A, k, val, h1, h2, h3⟩ := h
  have hx9 := ix_le (p := j % 3) (f := j / 3) (by omega)
  refine (write_h h1 (by omega) (sgQ (j % 3)) (ixQ (j % 3) (j / 3) : Int) x (sgQ_64 _) (wf_small (by omega) (by omega)) hx).mono ?_
  rintro e w' ⟨he, hS⟩
  exact ⟨⟨_, he⟩, _, _, _, hS, (h2.put (by omega) (by omega) hx).1, by omega⟩
/-- While it is cleared: behind j steps. -/
def CL2 (w : World) (b b2 rc pp pl p : Nat) (val : Nat → Nat → Int) (j : Nat) (W : World) : Prop := ∃ A k M2 A2 n2, Stash w b A k (crP rc b (crC p j) :: arP b2 M2 A2 :: bkP pp (.cells #[.int .u64 (sgQ p), .int .i64 (p : Int)] 36) :: [bkP pl oPl]) W ∧ WV A (valC val p j) ∧ WV A2 val ∧ A.t.writes = A2.t.writes + min j 2 ∧ A2.Low n2 ∧ A2.births ≤ n2 ∧ n2 ≤ 19 ∧ k ≤ 19 + j
theorem cl2_step {rc pp pl j : Nat} (h : CL2 w b b2 rc pp pl p val j W) (hp : p < 3) (hj : j < 5) :
    Calls Try.prog 22 #[.pointer (some ⟨rc, 0, none⟩)] W fun e w' => e = .returned (.tuple #[]) ∧ CL2 w b b2 rc pp pl p val (j + 1) w' := by
  obtain ⟨A, k, M2, A2, n2, h1, h2, h3, h4, h5, h6, h7, h8⟩ := h
  refine (cstep_h h1 (by omega) (crC_fit hp j)).mono ?_
  rintro e w' ⟨he, hS⟩
  obtain ⟨g1, g2, g3⟩ := crC_step h2 hp
  rw [g3] at hS
  refine ⟨he, _, _, M2, A2, n2, hS, g1, h3, ?_, h5, h6, h7, by omega⟩
  rw [g2, h4]
  split <;> omega
/-- While it is looked at: behind j reads of each. -/
def CL3 (w : World) (b b2 rc pp pl p : Nat) (val : Nat → Nat → Int) (j : Nat) (W : World) : Prop := ∃ A k M2 A2 n2, Stash w b A k (arP b2 M2 A2 :: crP rc b (crC p 5) :: bkP pp (.cells #[.int .u64 (sgQ p), .int .i64 (p : Int)] 36) :: [bkP pl oPl]) W ∧ WV A (valC val p 5) ∧ WV A2 val ∧ A.t.writes = A2.t.writes + 2 ∧ A2.Low n2 ∧ A2.births ≤ n2 ∧ n2 ≤ 19 + j ∧ k ≤ 24 + j
theorem CL3.still {rc pp pl j : Nat} (h : CL3 w b b2 rc pp pl p val j W) (hT : Frm.Turn [] W W') : CL3 w b b2 rc pp pl p val j W' := by
  obtain ⟨A, k, M2, A2, n2, h1, h2⟩ := h
  exact ⟨A, k, M2, A2, n2, h1.still hT, h2⟩
theorem three_of {q : Int} {p : Nat} (h : q % 3 = (p : Int)) (h0 : 0 ≤ q) : q.tmod 3 = (p : Int) ∧ IntKind.u8.wrap (p : Int) = (p : Int) := by
  refine ⟨by rw [Int.tmod_eq_emod_of_nonneg h0]; exact h, ?_⟩
  rw [IntKind.wrap_u8]; omega
theorem div_of (j : Nat) : ((j : Int)).tmod 3 = ((j % 3 : Nat) : Int) ∧ ((j : Int)).tdiv 3 = ((j / 3 : Nat) : Int) ∧ (j : Int) % 3 = ((j % 3 : Nat) : Int) ∧ (j : Int) / 3 = ((j / 3 : Nat) : Int) :=
  ⟨by rw [Int.tmod_eq_emod_of_nonneg (by omega)]; omega, by rw [Int.tdiv_eq_ediv_of_nonneg (by omega)]; omega, by omega, by omega⟩
set_option maxRecDepth 100000 in
set_option maxHeartbeats 8000000 in
theorem clears_any (v1 : Value) (z1 : Nat → Int) (n : Nat) (q : Int) (w : World) (hb1 : KindC .u64 w v1 z1 n) (hz1 : ∀ i, i < n → W64 (z1 i)) (hn : n ≤ 9223372036854775807) (hq : 0 ≤ q ∧ q < 256) :
    Calls Try.prog 4 #[v1, .int .u8 q] w fun e w' => e = .returned (.bool true) ∧ Frm.Turn [] w w' := by
  have HF := Lib.hid (first14 w)
  obtain ⟨⟨ao1, vc1, rfl⟩, hb1'⟩ := hb1
  have HB1 := Lib.hid hb1'
  have HZ1 := Lib.hid hz1
  have HN := Lib.hid hn
  obtain ⟨p, HP⟩ : ∃ p : Nat, Hid (q % 3 = (p : Int) ∧ p < 3) := ⟨(q % 3).toNat, Lib.hid (by omega)⟩
  obtain ⟨q2, q3⟩ := three_of HP.out.1 hq.1
  have q1 := HP.out.1
  have p0 : (0 : Int) ≤ (p : Int) := by omega
  have p3 : (p : Int) < 3 := by have := HP.out.2; omega
  have e2' : ((2 : Nat) : Int) = 2 := rfl
  have hsg := fun w1 hT => segs14 2 w w1 hT (by omega) (by omega)
  rw [e2'] at hsg
  have HSGF := Lib.hid hsg
  obtain ⟨fs, hfs⟩ := struct_of under_refA
  have HFS := Lib.hid hfs
  clear hb1' hz1 hq hsg hfs
  go_enter Try.func4, Try.ntmps4
  go_upto_region 4 with (first
    | (go_at_call 5; (with_reducible refine (HF.out).mono ?_); rintro e w1 ⟨rfl, hT⟩; have HSG := Lib.hid (HSGF.out w1 hT); clear hT)
    | (go_at_call 6; (with_reducible refine (HSG.out).mono ?_); rintro e w2 ⟨b, CS, G, kh, kc, ohs, A, k, rfl, y1, y2, y3, y4, y5, y6, y7, y8⟩; have HZZ1 := Lib.hid y1; have HZZ2 := Lib.hid y2; have HO := Lib.hid y3; have HQ := Lib.hid (And.intro y4 y5); have HS2 := Lib.hid y8; clear y1 y2 y3 y4 y5 y6 y7 y8)
    | (refine wpList_store_row rfl 32 (.tmp 6) (.tmp 25) rfl w2.heap.size CS rfl rfl 32 _ (World.alloc_heap_new w2 _) (by rw [HZZ1.out]; exact info_refA) (by rw [HZZ1.out]; rfl) HZZ2.out ?_))
  generalize hw3 : World.setRow _ w2.heap.size CS = w3
  have HT3 : Hid (Frm.Turn [] w2 w3) := Lib.hid (by rw [← hw3]; exact setRow_turn ((Frm.Turn.refl [] w2).alloc _) (.inr (Nat.le_refl _)) CS)
  have HS3 := Lib.hid ((HS2.out.perm (List.Perm.swap ..)).drop.still HT3.out)
  have HKK : Hid (∀ W', Frm.Turn [] w3 W' → W'.cell? ⟨kh, 0, none⟩ = some (.int .u64 65537) ∧ W'.cell? ⟨kh, 1, none⟩ = some (.int .u64 131074)) := Lib.hid (fun W' hT => by
    have h := HO.out _ ((HS3.out.still hT).on (bkP kh ohs) (by simp))
    exact ⟨h 0 (by omega), h 1 (by omega)⟩)
  clear hw3 HSG HSGF HS2 HT3 HZZ1 HZZ2 HFS HF HO
  go_cut [8] (fun s8 W2 => ∃ pl, s8 = .slice (some ⟨pl, 0, none⟩) 3 3 ∧ CL1 w b pl 0 W2)
  case first =>
    refine wp_region_held_drew (S := fun W' => Frm.Turn [] w3 W') (by kernel_rfl) ?_ (fun hHeld => ?_)
    · exact (Frm.Turn.refl [] w3).drew
    refine wpAnyH_take (i := 0) (v := ?_) rfl (by kernel_rfl) (by kernel_rfl) (by kernel_rfl) (fun _ _ _ h => h) (Or.inl ⟨by rfl, ?_⟩) (by assumption) ?_
    rotate_left
    · (intro w hSw; (try dsimp only at hSw); go_simp; try with_reducible rfl)
    try simp only [Act.put, List.getElem_toArray, List.getElem_cons_succ, List.getElem_cons_zero, List.setIfInBounds_toArray, List.set_cons_zero, List.set_cons_succ]
    refine wpAnyH_take (i := 1) (v := ?_) rfl (by kernel_rfl) (by kernel_rfl) (by kernel_rfl) (fun _ _ _ h => h) (Or.inl ⟨by rfl, ?_⟩) (by assumption) ?_
    rotate_left
    · (intro w hSw; (try dsimp only at hSw); go_simp; try with_reducible rfl)
    try simp only [Act.put, List.getElem_toArray, List.getElem_cons_succ, List.getElem_cons_zero, List.setIfInBounds_toArray, List.set_cons_zero, List.set_cons_succ]
    refine wpAnyH_take (i := 2) (v := ?_) rfl (by kernel_rfl) (by kernel_rfl) (by kernel_rfl) (fun _ _ _ h => h) (Or.inl ⟨by rfl, ?_⟩) (by assumption) ?_
    rotate_left
    · (intro w hSw; (try dsimp only at hSw); obtain ⟨k0, k1⟩ := HKK.out w hSw; go_simp; try with_reducible rfl)
    try simp only [Act.put, List.getElem_toArray, List.getElem_cons_succ, List.getElem_cons_zero, List.setIfInBounds_toArray, List.set_cons_zero, List.set_cons_succ]
    refine wpAnyH_take (i := 3) (v := ?_) rfl (by kernel_rfl) (by kernel_rfl) (by kernel_rfl) (fun _ _ _ h => h) (Or.inl ⟨by rfl, ?_⟩) (by assumption) ?_
    rotate_left
    · (intro w hSw; (try dsimp only at hSw); go_simp; try with_reducible rfl)
    try simp only [Act.put, List.getElem_toArray, List.getElem_cons_succ, List.getElem_cons_zero, List.setIfInBounds_toArray, List.set_cons_zero, List.set_cons_succ]
    refine wpAnyH_take (i := 4) (v := ?_) rfl (by kernel_rfl) (by kernel_rfl) (by kernel_rfl) (fun _ _ _ h => h) (Or.inl ⟨by rfl, ?_⟩) (by assumption) ?_
    rotate_left
    · (intro w hSw; (try dsimp only at hSw); go_simp; try with_reducible rfl)
    try simp only [Act.put, List.getElem_toArray, List.getElem_cons_succ, List.getElem_cons_zero, List.setIfInBounds_toArray, List.set_cons_zero, List.set_cons_succ]
    refine wpAnyH_take (i := 5) (v := ?_) rfl (by kernel_rfl) (by kernel_rfl) (by kernel_rfl) (fun _ _ _ h => h) (Or.inl ⟨by rfl, ?_⟩) (by assumption) ?_
    rotate_left
    · (intro w hSw; (try dsimp only at hSw); go_simp; try with_reducible rfl)
    try simp only [Act.put, List.getElem_toArray, List.getElem_cons_succ, List.getElem_cons_zero, List.setIfInBounds_toArray, List.set_cons_zero, List.set_cons_succ]
    refine wpAnyH_take (i := 6) (v := ?_) rfl (by kernel_rfl) (by kernel_rfl) (by kernel_rfl) (fun _ _ _ h => h) (Or.inl ⟨by rfl, ?_⟩) (by assumption) ?_
    rotate_left
    · (intro w hSw; (try dsimp only at hSw); obtain ⟨k0, k1⟩ := HKK.out w hSw; go_simp; try with_reducible rfl)
    try simp only [Act.put, List.getElem_toArray, List.getElem_cons_succ, List.getElem_cons_zero, List.setIfInBounds_toArray, List.set_cons_zero, List.set_cons_succ]
    refine wpAnyH_take (i := 7) (v := ?_) rfl (by kernel_rfl) (by kernel_rfl) (by kernel_rfl) (fun _ _ _ h => h) (Or.inl ⟨by rfl, ?_⟩) (by assumption) ?_
    rotate_left
    · (intro w hSw; (try dsimp only at hSw); go_simp; try with_reducible rfl)
    try simp only [Act.put, List.getElem_toArray, List.getElem_cons_succ, List.getElem_cons_zero, List.setIfInBounds_toArray, List.set_cons_zero, List.set_cons_succ]
    refine wpAnyH_take (i := 8) (v := ?_) rfl (by kernel_rfl) (by kernel_rfl) (by kernel_rfl) (fun _ _ _ h => h) (Or.inl ⟨by rfl, ?_⟩) (by assumption) ?_
    rotate_left
    · (intro w hSw; (try dsimp only at hSw); go_simp; try with_reducible rfl)
    try simp only [Act.put, List.getElem_toArray, List.getElem_cons_succ, List.getElem_cons_zero, List.setIfInBounds_toArray, List.set_cons_zero, List.set_cons_succ]
    refine wpAnyH_take (i := 9) (v := ?_) rfl (by kernel_rfl) (by kernel_rfl) (by kernel_rfl) (fun _ _ _ h => h) (Or.inl ⟨by rfl, ?_⟩) (by assumption) ?_
    rotate_left
    · (intro w hSw; (try dsimp only at hSw); go_simp; try with_reducible rfl)
    try simp only [Act.put, List.getElem_toArray, List.getElem_cons_succ, List.getElem_cons_zero, List.setIfInBounds_toArray, List.set_cons_zero, List.set_cons_succ]
    refine wpAnyH_take (i := 10) (v := ?_) rfl (by kernel_rfl) (by kernel_rfl) (by kernel_rfl) (fun _ _ _ h => h) (Or.inl ⟨by rfl, ?_⟩) (by assumption) ?_
    rotate_left
    · (intro w hSw; (try dsimp only at hSw); obtain ⟨k0, k1⟩ := HKK.out w hSw; go_simp; try with_reducible rfl)
    try simp only [Act.put, List.getElem_toArray, List.getElem_cons_succ, List.getElem_cons_zero, List.setIfInBounds_toArray, List.set_cons_zero, List.set_cons_succ]
    refine wpAnyH_take (i := 11) (v := ?_) rfl (by kernel_rfl) (by kernel_rfl) (by kernel_rfl) (fun _ _ _ h => h) (Or.inl ⟨by rfl, ?_⟩) (by assumption) ?_
    rotate_left
    · (intro w hSw; (try dsimp only at hSw); go_simp; try with_reducible rfl)
    try simp only [Act.put, List.getElem_toArray, List.getElem_cons_succ, List.getElem_cons_zero, List.setIfInBounds_toArray, List.set_cons_zero, List.set_cons_succ]
    refine wpAnyH_ready (rs := [12]) (by kernel_rfl) (by simp) ?_
    refine AllReadyH.cons rfl (fun K hK => ?_) AllReadyH.nil
    try simp only [List.getElem_toArray, List.getElem_cons_succ, List.getElem_cons_zero]
    go_simp
    have hS12 := add_h (HS3.out.still hHeld) oPl (World.alloc_heap_new _ _)
    have HL1 : Hid (CL1 w b w3.drew.heap.size 0 (w3.drew.alloc oPl)) := Lib.hid ⟨A, k, _, (hS12.perm (List.Perm.swap ..)).drop, wv_start HQ.out.2, by have := HQ.out.1; omega⟩
    refine hK.out _ _ (hHeld.alloc _) (fun hHeld1 => ?_)
    clear hK K
    try simp only [Act.put, List.getElem_toArray, List.getElem_cons_succ, List.getElem_cons_zero, List.setIfInBounds_toArray, List.set_cons_zero, List.set_cons_succ]
    refine wpAnyH_take (i := 13) (v := ?_) rfl (by kernel_rfl) (by kernel_rfl) (by kernel_rfl) (fun _ _ _ h => h) (Or.inl ⟨by rfl, ?_⟩) (by assumption) ?_
    rotate_left
    · (intro w hSw; (try dsimp only at hSw); go_simp; try with_reducible rfl)
    try simp only [Act.put, List.getElem_toArray, List.getElem_cons_succ, List.getElem_cons_zero, List.setIfInBounds_toArray, List.set_cons_zero, List.set_cons_succ]
    refine wpAnyH_done (by kernel_rfl) ?_ _
    go_wp2_with fail
    go_meet
    exact ⟨_, rfl, HL1.out⟩
  case rest =>
    obtain ⟨pl, rfl, hL⟩ := hcut
    have HL0 := Lib.hid hL
    clear HS3 HKK HQ hL
    go_wp2_with fail
    go_loopw [42] (fun i wr => ∃ j : Nat, j ≤ n ∧ i = .int .i64 j ∧ CL1 w b pl j wr) (fun i _ => n - (intOf i).toNat)
    case atStart => exact ⟨0, Nat.zero_le _, rfl, HL0.out⟩
    case round =>
      obtain ⟨j, hj, rfl, hrel⟩ := hrel
      clear HL0
      by_cases hlt : j < n
      · rcases HB1.out with e0 | ⟨ga, gc, e0, hcell⟩
        · omega
        cases e0
        have hT0 : Frm.Turn [] w wr := by obtain ⟨A, k, val, h1, h2, h3⟩ := hrel; exact h1.kin.turn
        have hcj := hT0.cell (hcell j hlt) (by simp)
        have hx64 := HZ1.out j hlt
        have hj1 : (j : Int) < (n : Int) := by omega
        have hj0 : (0 : Int) ≤ (j : Int) := by omega
        have HLT := Lib.hid hlt
        have HREL := Lib.hid hrel
        have hjm : (j : Int) ≤ 9223372036854775806 := by have := HN.out; omega
        clear hcell hT0 hj hlt hrel
        generalize z1 j = x at hcj hx64
        by_cases h15 : j < 15
        · obtain ⟨d1, d2, d3, d4⟩ := div_of j
          have hp3 : j % 3 < 3 := by omega
          have hS : ∃ A k, Stash w b A k [bkP pl oPl] wr := by obtain ⟨A, k, val, h1, h2, h3⟩ := HREL.out; exact ⟨A, k, h1⟩
          obtain ⟨A0, k0, hS⟩ := hS
          obtain ⟨c0, c1⟩ := pl_cells hS (List.mem_cons_self ..) hp3
          have HWD := Lib.hid (fun W => rword_q (j % 3) (j / 3) W hp3 (by omega))
          have HWR : Hid (∀ W', Frm.Turn [] wr W' → Calls Try.prog 8 #[.pointer (some ⟨b, 0, none⟩), .agg #[.int .u64 (sgQ (j % 3)), .int .i64 (ixQ (j % 3) (j / 3) : Int)], .int .u64 x] W' fun e w' => (∃ y, e = .returned (.int .i64 y)) ∧ CL1 w b pl (j + 1) w') := Lib.hid (fun W' hT => by
            have hC : CL1 w b pl j W' := by obtain ⟨A, k, val, h1, h2⟩ := HREL.out; exact ⟨A, k, val, h1.still hT, h2⟩
            exact cl1_write hC h15 hx64)
          have hj15 : (j : Int) < 15 := by omega
          have m0 : (0 : Int) ≤ ((j % 3 : Nat) : Int) := by omega
          have m3 : ((j % 3 : Nat) : Int) < 3 := by omega
          clear hS h15 hp3 HREL hx64
          generalize j % 3 = jp at d1 d3 c0 c1 HWD HWR m0 m3
          generalize j / 3 = jf at d2 d4 HWD HWR
          go_wp2_with (first
            | (go_at_call 14; (with_reducible refine (HWD.out _).mono ?_); rintro e w11 ⟨rfl, hT⟩; have HT11 := Lib.hid hT; clear hT)
            | (go_at_call 8; (with_reducible refine (HWR.out _ HT11.out).mono ?_); rintro e w12 ⟨⟨y, rfl⟩, hS⟩; have HS12 := Lib.hid hS; clear hS))
          refine ⟨⟨j + 1, HLT.out, by simp, HS12.out⟩, ?_⟩
          have := HLT.out
          simp [intOf]; omega
        · have hj15 : ¬ (j : Int) < 15 := by omega
          have HM := Lib.hid (cl1_more HREL.out)
          clear h15 HREL
          go_wp2_with fail
          refine ⟨⟨j + 1, HLT.out, by simp, HM.out⟩, ?_⟩
          have := HLT.out
          simp [intOf]; omega
      · obtain rfl : j = n := by omega
        have hjj : ¬ (j : Int) < (j : Int) := by omega
        obtain ⟨A, k, val, hS, hV, hk⟩ := hrel
        have HV := Lib.hid hV
        have HK : Hid (k ≤ 19) := Lib.hid (by omega)
        have HCL := Lib.hid (clone_h hS)
        clear hlt hj hS hV hk
        go_upto_region 12 with (go_at_call 20; (with_reducible refine (HCL.out).mono ?_); rintro e w4 ⟨b2, M2, rfl, hS⟩; have HS4 := Lib.hid hS; clear hS)
        obtain ⟨c0, c1⟩ := pl_cells (pl := pl) HS4.out (by simp) HP.out.2
        have HS5 := Lib.hid (add_h HS4.out (.cells #[.int .u64 (sgQ p), .int .i64 (p : Int)] 36) (World.alloc_heap_new _ _))
        go_upto_region 13 with fail
        have hpp := World.alloc_heap_new w4 (.cells #[.int .u64 (sgQ p), .int .i64 (p : Int)] 36)
        have p4 := (Frm.cell_row _ _ 0 _ _ _ hpp).trans rfl
        have p5 := (Frm.cell_row _ _ 1 _ _ _ hpp).trans rfl
        have HNC := Lib.hid (cnew_h HS5.out (sgQ p) p)
        clear hpp c0 c1 HCL
        go_upto_region 14 with (go_at_call 21; (with_reducible refine (HNC.out).mono ?_); rintro e w6 ⟨rc, rfl, hS⟩; have HS6 := Lib.hid hS; clear hS)
        generalize w4.heap.size = pp at HS6 p4 p5 ⊢
        have HC0 : Hid (CL2 w b b2 rc pp pl p val 0 w6) := Lib.hid (by
          obtain ⟨M, hs, _⟩ := HS6.out.kin
          exact ⟨A, k, M2, A, k, HS6.out.perm (List.Perm.cons _ (List.Perm.swap ..)), HV.out, HV.out, rfl, hs.low, hs.born, HK.out, HK.out⟩)
        clear HNC HS5 HS4 HS6 p4 p5 HV HK
        go_wp2_with fail
        go_loopw [71] (fun i wr => ∃ j : Nat, j ≤ 5 ∧ i = .int .i64 j ∧ CL2 w b b2 rc pp pl p val j wr) (fun i _ => 5 - (intOf i).toNat)
        case atStart => exact ⟨0, Nat.zero_le _, rfl, HC0.out⟩
        case round =>
          obtain ⟨y, hy, rfl, hrel⟩ := hrel
          clear HC0
          by_cases hlt : y < 5
          · have HST := Lib.hid (cl2_step hrel HP.out.2 hlt)
            have hy1 : (y : Int) < 5 := by omega
            clear hrel
            go_wp2_with (go_at_call 22; (with_reducible refine (HST.out).mono ?_); rintro e w9 ⟨rfl, hg⟩; have HG9 := Lib.hid hg; clear hg)
            refine ⟨⟨y + 1, by omega, by simp, HG9.out⟩, ?_⟩
            simp [intOf]; omega
          · obtain rfl : y = 5 := by omega
            have hy3 : ¬ ((5 : Nat) : Int) < 5 := by omega
            have HD0 : Hid (CL3 w b b2 rc pp pl p val 0 wr) := Lib.hid (by
              obtain ⟨A, k, M2, A2, n2, h1, h2, h3, h4, h5, h6, h7, h8⟩ := hrel
              exact ⟨A, k, M2, A2, n2, h1.perm (List.Perm.swap ..), h2, h3, h4, h5, h6, h7, h8⟩)
            clear hrel hlt hy
            go_wp2_with fail
            go_loopw [76] (fun i wz => ∃ j : Nat, j ≤ 15 ∧ i = .int .i64 j ∧ CL3 w b b2 rc pp pl p val j wz) (fun i _ => 15 - (intOf i).toNat)
            case atStart => exact ⟨0, Nat.zero_le _, rfl, HD0.out⟩
            case round =>
              obtain ⟨i, hi, rfl, hrel⟩ := hrel
              clear HD0
              by_cases hlt : i < 15
              · obtain ⟨A, k, M2, A2, n2, hS, hV, hV2, hw, hL, hB, hn2, hk⟩ := hrel
                obtain ⟨d1, d2, d3, d4⟩ := div_of i
                have hp3 : i % 3 < 3 := by omega
                have hf5 : i / 3 < 5 := by omega
                have HI := Lib.hid hlt
                obtain ⟨c0, c1⟩ := pl_cells (pl := pl) hS (by simp) hp3
                have HWD := Lib.hid (fun W => rword_q (i % 3) (i / 3) W hp3 (by omega))
                have hi15 : (i : Int) < 15 := by omega
                have hi0 : (0 : Int) ≤ (i : Int) := by omega
                have m0 : (0 : Int) ≤ ((i % 3 : Nat) : Int) := by omega
                have m3 : ((i % 3 : Nat) : Int) < 3 := by omega
                have f0 : (0 : Int) ≤ ((i / 3 : Nat) : Int) := by omega
                have f5 : ((i / 3 : Nat) : Int) ≤ 5 := by omega
                have hval := valC_end val p (i % 3) (i / 3)
                have HVL := Lib.hid hval
                have hg1 := hV.get hp3 hf5
                have hg2 := hV2.get hp3 hf5
                have hix := ix_le (p := i % 3) hf5
                have HS := Lib.hid hS
                have HR1 : Hid (∀ W' ps', Stash w b A k ps' W' → Calls Try.prog 13 #[.pointer (some ⟨b, 0, none⟩), .agg #[.int .u64 (sgQ (i % 3)), .int .i64 (ixQ (i % 3) (i / 3) : Int)]] W' fun e w' => e = .returned (.tuple #[.int .u64 (valC val p 5 (i % 3) (i / 3)), .int .i64 0]) ∧ Stash w b (A.read (sgQ (i % 3)) (ixQ (i % 3) (i / 3) : Int)).1 (k + 1) ps' w') := Lib.hid (fun W' ps' hS' => by
                  have := read_h hS' (by omega) (sgQ (i % 3)) (ixQ (i % 3) (i / 3) : Int) (sgQ_64 _) (wf_small (by omega) (by omega))
                  rw [hg1] at this
                  exact this)
                have HR2 : Hid (∀ W' A' k' ps', Stash w b A' k' (arP b2 M2 A2 :: ps') W' → Calls Try.prog 13 #[.pointer (some ⟨b2, 0, none⟩), .agg #[.int .u64 (sgQ (i % 3)), .int .i64 (ixQ (i % 3) (i / 3) : Int)]] W' fun e w' => e = .returned (.tuple #[.int .u64 (val (i % 3) (i / 3)), .int .i64 0]) ∧ ∃ M', Stash w b A' k' (arP b2 M' (A2.read (sgQ (i % 3)) (ixQ (i % 3) (i / 3) : Int)).1 :: ps') w' ∧ (A2.read (sgQ (i % 3)) (ixQ (i % 3) (i / 3) : Int)).1.Low (n2 + 1) ∧ (A2.read (sgQ (i % 3)) (ixQ (i % 3) (i / 3) : Int)).1.births ≤ n2 + 1) := Lib.hid (fun W' A' k' ps' hS' => by
                  have := read2_h hS' hL hB (by omega) (sgQ (i % 3)) (ixQ (i % 3) (i / 3) : Int) (sgQ_64 _) (wf_small (by omega) (by omega))
                  rw [hg2] at this
                  exact this)
                have HVV : Hid (WV (A.read (sgQ (i % 3)) (ixQ (i % 3) (i / 3) : Int)).1 (valC val p 5) ∧ WV (A2.read (sgQ (i % 3)) (ixQ (i % 3) (i / 3) : Int)).1 val ∧ (A.read (sgQ (i % 3)) (ixQ (i % 3) (i / 3) : Int)).1.t.writes = (A2.read (sgQ (i % 3)) (ixQ (i % 3) (i / 3) : Int)).1.t.writes + 2) := Lib.hid (by
                  obtain ⟨x1, x2⟩ := hV.read (sgQ (i % 3)) (ixQ (i % 3) (i / 3) : Int)
                  obtain ⟨y1, y2⟩ := hV2.read (sgQ (i % 3)) (ixQ (i % 3) (i / 3) : Int)
                  exact ⟨x1, y1, by rw [x2, y2]; exact hw⟩)
                have HNK := Lib.hid (And.intro hn2 hk)
                have HSQ := Lib.hid (same_q hp3 HP.out.2)
                clear hS hV hV2 hw hL hB hn2 hk hval hg1 hg2 hix hlt hi hp3 hf5
                generalize (A.read (sgQ (i % 3)) (ixQ (i % 3) (i / 3) : Int)).1 = A' at HR1 HVV
                generalize (A2.read (sgQ (i % 3)) (ixQ (i % 3) (i / 3) : Int)).1 = A2' at HR2 HVV
                generalize valC val p 5 (i % 3) (i / 3) = x1 at HVL HR1
                generalize val (i % 3) (i / 3) = x2 at HVL HR2
                generalize i % 3 = jp at *
                generalize i / 3 = jf at *
                generalize ixQ jp jf = ix at *
                go_upto_region 22 with (go_at_call 14; (with_reducible refine (HWD.out _).mono ?_); rintro e w11 ⟨rfl, hT⟩; have HT11 := Lib.hid hT; clear hT)
                have HS12 := Lib.hid (add_h (HS.out.still HT11.out) (.cells #[.int .u64 (sgQ jp), .int .i64 (ix : Int)] 42) (World.alloc_heap_new _ _))
                have hxx := World.alloc_heap_new w11 (.cells #[.int .u64 (sgQ jp), .int .i64 (ix : Int)] 42)
                have x4 := (Frm.cell_row _ _ 0 _ _ _ hxx).trans rfl
                have x5 := (Frm.cell_row _ _ 1 _ _ _ hxx).trans rfl
                have HRA := Lib.hid (HR1.out _ _ HS12.out)
                clear hxx
                go_upto_region 23 with (go_at_call 13; (with_reducible refine (HRA.out).mono ?_); rintro e w13 ⟨rfl, hS⟩; have HS13 := Lib.hid hS; clear hS)
                generalize w11.heap.size = xb at HS13 x4 x5 ⊢
                have x4 : w13.cell? ⟨xb, 0, none⟩ = some (.int .u64 (sgQ jp)) := cell_h HS13.out (x := xb) (l := [.int .u64 (sgQ jp), .int .i64 (ix : Int)]) (List.mem_cons_self ..) rfl
                have x5 : w13.cell? ⟨xb, 1, none⟩ = some (.int .i64 (ix : Int)) := cell_h HS13.out (x := xb) (l := [.int .u64 (sgQ jp), .int .i64 (ix : Int)]) (List.mem_cons_self ..) rfl
                have HRB := Lib.hid (HR2.out _ _ _ _ (HS13.out.perm (List.Perm.swap ..)))
                clear HRA HS12 HR1 HR2 HWD HS HT11
                go_upto_region 24 with (go_at_call 13; (with_reducible refine (HRB.out).mono ?_); rintro e w14 ⟨rfl, M', hS, hL, hB⟩; have HS14 := Lib.hid (Stash.drop (hS.perm (List.Perm.swap ..))); have HLB := Lib.hid (And.intro hL hB); clear hS hL hB)
                clear HRB HS13 x4 x5
                have HNX : Hid (∀ W', Frm.Turn [] w14 W' → CL3 w b b2 rc pp pl p val (i + 1) W') := Lib.hid (fun W' hT => ⟨A', _, M', A2', _, HS14.out.still hT, HVV.out.1, HVV.out.2.1, HVV.out.2.2, HLB.out.1, HLB.out.2, by have := HNK.out.1; omega, by have := HNK.out.2; omega⟩)
                have HCC : Hid (∀ W', Frm.Turn [] w14 W' → (W'.cell? ⟨pl, jp * 2, none⟩ = some (.int .u64 (sgQ jp)) ∧ W'.cell? ⟨pl, jp * 2 + 1, none⟩ = some (.int .i64 (jp : Int))) ∧ W'.cell? ⟨pp, 0, none⟩ = some (.int .u64 (sgQ p)) ∧ W'.cell? ⟨pp, 1, none⟩ = some (.int .i64 (p : Int))) := Lib.hid (fun W' hT => by
                  have hS' := HS14.out.still hT
                  refine ⟨pl_cells hS' (by simp) (by omega), ?_⟩
                  exact ⟨cell_h hS' (x := pp) (t := 36) (l := [.int .u64 (sgQ p), .int .i64 (p : Int)]) (by simp) rfl, cell_h hS' (x := pp) (t := 36) (l := [.int .u64 (sgQ p), .int .i64 (p : Int)]) (by simp) rfl⟩)
                clear HS14 HVV HLB HNK c0 c1
                have hwj : IntKind.i64.wrap (jf : Int) = (jf : Int) := by rw [IntKind.wrap_i64]; omega
                by_cases he : jp = p
                · have heq : ∀ w, (Op.equalIn 10000 36 (.agg #[.int .u64 (sgQ jp), .int .i64 (jp : Int)]) (.agg #[.int .u64 (sgQ p), .int .i64 (p : Int)])).run Try.prog w = .ok true w := fun w => equal2 w _ _ _ _ true (by rw [HSQ.out, decide_eq_true he])
                  by_cases h3 : 3 ≤ jf
                  · have hx1 : x1 = 0 := by rw [HVL.out, if_pos ⟨he, by omega⟩]
                    subst hx1
                    have h3' : (3 : Int) ≤ (jf : Int) := by omega
                    clear h3 he HVL
                    go_cut [110] (fun s110 W2 => s110 = .bool true ∧ Frm.Turn [] w14 W2)
                    case first =>
                      refine wp_region_held_drew (S := fun W' => Frm.Turn [] w14 W') (by kernel_rfl) ?_ (fun hHeld => ?_)
                      · exact (Frm.Turn.refl [] w14).drew
                      refine wpAnyH_take (i := 0) (v := ?_) rfl (by kernel_rfl) (by kernel_rfl) (by kernel_rfl) (fun _ _ _ h => h) (Or.inl ⟨by rfl, ?_⟩) (by assumption) ?_
                      rotate_left
                      · (intro w hSw; (try dsimp only at hSw); go_simp; try with_reducible rfl)
                      try simp only [Act.put, List.getElem_toArray, List.getElem_cons_succ, List.getElem_cons_zero, List.setIfInBounds_toArray, List.set_cons_zero, List.set_cons_succ]
                      refine wpAnyH_take (i := 1) (v := ?_) rfl (by kernel_rfl) (by kernel_rfl) (by kernel_rfl) (fun _ _ _ h => h) (Or.inl ⟨by rfl, ?_⟩) (by assumption) ?_
                      rotate_left
                      · (intro w hSw; (try dsimp only at hSw); go_simp; try with_reducible rfl)
                      try simp only [Act.put, List.getElem_toArray, List.getElem_cons_succ, List.getElem_cons_zero, List.setIfInBounds_toArray, List.set_cons_zero, List.set_cons_succ]
                      refine wpAnyH_take (i := 2) (v := ?_) rfl (by kernel_rfl) (by kernel_rfl) (by kernel_rfl) (fun _ _ _ h => h) (Or.inl ⟨by rfl, ?_⟩) (by assumption) ?_
                      rotate_left
                      · (intro w hSw; (try dsimp only at hSw); go_simp; try with_reducible rfl)
                      try simp only [Act.put, List.getElem_toArray, List.getElem_cons_succ, List.getElem_cons_zero, List.setIfInBounds_toArray, List.set_cons_zero, List.set_cons_succ]
                      refine wpAnyH_take (i := 3) (v := ?_) rfl (by kernel_rfl) (by kernel_rfl) (by kernel_rfl) (fun _ _ _ h => h) (Or.inl ⟨by rfl, ?_⟩) (by assumption) ?_
                      rotate_left
                      · (intro w hSw; (try dsimp only at hSw); go_simp; try with_reducible rfl)
                      try simp only [Act.put, List.getElem_toArray, List.getElem_cons_succ, List.getElem_cons_zero, List.setIfInBounds_toArray, List.set_cons_zero, List.set_cons_succ]
                      refine wpAnyH_take (i := 4) (v := ?_) rfl (by kernel_rfl) (by kernel_rfl) (by kernel_rfl) (fun _ _ _ h => h) (Or.inl ⟨by rfl, ?_⟩) (by assumption) ?_
                      rotate_left
                      · (intro w hSw; (try dsimp only at hSw); obtain ⟨⟨c0, c1⟩, c2, c3⟩ := HCC.out w hSw; go_simp; try with_reducible rfl)
                      try simp only [Act.put, List.getElem_toArray, List.getElem_cons_succ, List.getElem_cons_zero, List.setIfInBounds_toArray, List.set_cons_zero, List.set_cons_succ]
                      refine wpAnyH_take (i := 5) (v := ?_) rfl (by kernel_rfl) (by kernel_rfl) (by kernel_rfl) (fun _ _ _ h => h) (Or.inl ⟨by rfl, ?_⟩) (by assumption) ?_
                      rotate_left
                      · (intro w hSw; (try dsimp only at hSw); obtain ⟨⟨c0, c1⟩, c2, c3⟩ := HCC.out w hSw; go_simp; try with_reducible rfl)
                      try simp only [Act.put, List.getElem_toArray, List.getElem_cons_succ, List.getElem_cons_zero, List.setIfInBounds_toArray, List.set_cons_zero, List.set_cons_succ]
                      refine wpAnyH_take (i := 6) (v := ?_) rfl (by kernel_rfl) (by kernel_rfl) (by kernel_rfl) (fun _ _ _ h => h) (Or.inl ⟨by rfl, ?_⟩) (by assumption) ?_
                      rotate_left
                      · (intro w hSw; (try dsimp only at hSw); go_simp; try with_reducible rfl)
                      try simp only [Act.put, List.getElem_toArray, List.getElem_cons_succ, List.getElem_cons_zero, List.setIfInBounds_toArray, List.set_cons_zero, List.set_cons_succ]
                      refine wpAnyH_take (i := 7) (v := ?_) rfl (by kernel_rfl) (by kernel_rfl) (by kernel_rfl) (fun _ _ _ h => h) (Or.inl ⟨by rfl, ?_⟩) (by assumption) ?_
                      rotate_left
                      · (intro w hSw; (try dsimp only at hSw); go_simp; try with_reducible rfl)
                      try simp only [Act.put, List.getElem_toArray, List.getElem_cons_succ, List.getElem_cons_zero, List.setIfInBounds_toArray, List.set_cons_zero, List.set_cons_succ]
                      refine wpAnyH_take (i := 8) (v := ?_) rfl (by kernel_rfl) (by kernel_rfl) (by kernel_rfl) (fun _ _ _ h => h) (Or.inl ⟨by rfl, ?_⟩) (by assumption) ?_
                      rotate_left
                      · (intro w hSw; (try dsimp only at hSw); go_simp; try with_reducible rfl)
                      try simp only [Act.put, List.getElem_toArray, List.getElem_cons_succ, List.getElem_cons_zero, List.setIfInBounds_toArray, List.set_cons_zero, List.set_cons_succ]
                      refine wpAnyH_take (i := 9) (v := ?_) rfl (by kernel_rfl) (by kernel_rfl) (by kernel_rfl) (fun _ _ _ h => h) (Or.inl ⟨by rfl, ?_⟩) (by assumption) ?_
                      rotate_left
                      · (intro w hSw; (try dsimp only at hSw); go_simp; try with_reducible rfl)
                      try simp only [Act.put, List.getElem_toArray, List.getElem_cons_succ, List.getElem_cons_zero, List.setIfInBounds_toArray, List.set_cons_zero, List.set_cons_succ]
                      refine wpAnyH_take (i := 10) (v := ?_) rfl (by kernel_rfl) (by kernel_rfl) (by kernel_rfl) (fun _ _ _ h => h) (Or.inl ⟨by rfl, ?_⟩) (by assumption) ?_
                      rotate_left
                      · (intro w hSw; (try dsimp only at hSw); go_simp; try with_reducible rfl)
                      try simp only [Act.put, List.getElem_toArray, List.getElem_cons_succ, List.getElem_cons_zero, List.setIfInBounds_toArray, List.set_cons_zero, List.set_cons_succ]
                      refine wpAnyH_take (i := 11) (v := ?_) rfl (by kernel_rfl) (by kernel_rfl) (by kernel_rfl) (fun _ _ _ h => h) (Or.inl ⟨by rfl, ?_⟩) (by assumption) ?_
                      rotate_left
                      · (intro w hSw; (try dsimp only at hSw); go_simp; try with_reducible rfl)
                      try simp only [Act.put, List.getElem_toArray, List.getElem_cons_succ, List.getElem_cons_zero, List.setIfInBounds_toArray, List.set_cons_zero, List.set_cons_succ]
                      refine wpAnyH_done (by kernel_rfl) ?_ _
                      go_wp2_with fail
                      go_meet
                      exact ⟨rfl, hHeld⟩
                    case rest =>
                      obtain ⟨rfl, hT⟩ := hcut
                      have HN2 := Lib.hid (HNX.out _ hT)
                      clear HNX HCC hT heq
                      go_wp2_with fail
                      refine ⟨⟨i + 1, HI.out, by simp, HN2.out⟩, ?_⟩
                      have := HI.out
                      simp [intOf]; omega
                  · have hx1 : x1 = x2 := by rw [HVL.out, if_neg (fun h => by omega)]
                    subst hx1
                    have h3' : ¬ (3 : Int) ≤ (jf : Int) := by omega
                    clear h3 he HVL
                    go_cut [110] (fun s110 W2 => s110 = .bool false ∧ Frm.Turn [] w14 W2)
                    case first =>
                      refine wp_region_held_drew (S := fun W' => Frm.Turn [] w14 W') (by kernel_rfl) ?_ (fun hHeld => ?_)
                      · exact (Frm.Turn.refl [] w14).drew
                      refine wpAnyH_take (i := 0) (v := ?_) rfl (by kernel_rfl) (by kernel_rfl) (by kernel_rfl) (fun _ _ _ h => h) (Or.inl ⟨by rfl, ?_⟩) (by assumption) ?_
                      rotate_left
                      · (intro w hSw; (try dsimp only at hSw); go_simp; try with_reducible rfl)
                      try simp only [Act.put, List.getElem_toArray, List.getElem_cons_succ, List.getElem_cons_zero, List.setIfInBounds_toArray, List.set_cons_zero, List.set_cons_succ]
                      refine wpAnyH_take (i := 1) (v := ?_) rfl (by kernel_rfl) (by kernel_rfl) (by kernel_rfl) (fun _ _ _ h => h) (Or.inl ⟨by rfl, ?_⟩) (by assumption) ?_
                      rotate_left
                      · (intro w hSw; (try dsimp only at hSw); go_simp; try with_reducible rfl)
                      try simp only [Act.put, List.getElem_toArray, List.getElem_cons_succ, List.getElem_cons_zero, List.setIfInBounds_toArray, List.set_cons_zero, List.set_cons_succ]
                      refine wpAnyH_take (i := 2) (v := ?_) rfl (by kernel_rfl) (by kernel_rfl) (by kernel_rfl) (fun _ _ _ h => h) (Or.inl ⟨by rfl, ?_⟩) (by assumption) ?_
                      rotate_left
                      · (intro w hSw; (try dsimp only at hSw); go_simp; try with_reducible rfl)
                      try simp only [Act.put, List.getElem_toArray, List.getElem_cons_succ, List.getElem_cons_zero, List.setIfInBounds_toArray, List.set_cons_zero, List.set_cons_succ]
                      refine wpAnyH_take (i := 3) (v := ?_) rfl (by kernel_rfl) (by kernel_rfl) (by kernel_rfl) (fun _ _ _ h => h) (Or.inl ⟨by rfl, ?_⟩) (by assumption) ?_
                      rotate_left
                      · (intro w hSw; (try dsimp only at hSw); go_simp; try with_reducible rfl)
                      try simp only [Act.put, List.getElem_toArray, List.getElem_cons_succ, List.getElem_cons_zero, List.setIfInBounds_toArray, List.set_cons_zero, List.set_cons_succ]
                      refine wpAnyH_take (i := 4) (v := ?_) rfl (by kernel_rfl) (by kernel_rfl) (by kernel_rfl) (fun _ _ _ h => h) (Or.inl ⟨by rfl, ?_⟩) (by assumption) ?_
                      rotate_left
                      · (intro w hSw; (try dsimp only at hSw); obtain ⟨⟨c0, c1⟩, c2, c3⟩ := HCC.out w hSw; go_simp; try with_reducible rfl)
                      try simp only [Act.put, List.getElem_toArray, List.getElem_cons_succ, List.getElem_cons_zero, List.setIfInBounds_toArray, List.set_cons_zero, List.set_cons_succ]
                      refine wpAnyH_take (i := 5) (v := ?_) rfl (by kernel_rfl) (by kernel_rfl) (by kernel_rfl) (fun _ _ _ h => h) (Or.inl ⟨by rfl, ?_⟩) (by assumption) ?_
                      rotate_left
                      · (intro w hSw; (try dsimp only at hSw); obtain ⟨⟨c0, c1⟩, c2, c3⟩ := HCC.out w hSw; go_simp; try with_reducible rfl)
                      try simp only [Act.put, List.getElem_toArray, List.getElem_cons_succ, List.getElem_cons_zero, List.setIfInBounds_toArray, List.set_cons_zero, List.set_cons_succ]
                      refine wpAnyH_take (i := 6) (v := ?_) rfl (by kernel_rfl) (by kernel_rfl) (by kernel_rfl) (fun _ _ _ h => h) (Or.inl ⟨by rfl, ?_⟩) (by assumption) ?_
                      rotate_left
                      · (intro w hSw; (try dsimp only at hSw); go_simp; try with_reducible rfl)
                      try simp only [Act.put, List.getElem_toArray, List.getElem_cons_succ, List.getElem_cons_zero, List.setIfInBounds_toArray, List.set_cons_zero, List.set_cons_succ]
                      refine wpAnyH_take (i := 7) (v := ?_) rfl (by kernel_rfl) (by kernel_rfl) (by kernel_rfl) (fun _ _ _ h => h) (Or.inl ⟨by rfl, ?_⟩) (by assumption) ?_
                      rotate_left
                      · (intro w hSw; (try dsimp only at hSw); go_simp; try with_reducible rfl)
                      try simp only [Act.put, List.getElem_toArray, List.getElem_cons_succ, List.getElem_cons_zero, List.setIfInBounds_toArray, List.set_cons_zero, List.set_cons_succ]
                      refine wpAnyH_take (i := 8) (v := ?_) rfl (by kernel_rfl) (by kernel_rfl) (by kernel_rfl) (fun _ _ _ h => h) (Or.inl ⟨by rfl, ?_⟩) (by assumption) ?_
                      rotate_left
                      · (intro w hSw; (try dsimp only at hSw); go_simp; try with_reducible rfl)
                      try simp only [Act.put, List.getElem_toArray, List.getElem_cons_succ, List.getElem_cons_zero, List.setIfInBounds_toArray, List.set_cons_zero, List.set_cons_succ]
                      refine wpAnyH_take (i := 9) (v := ?_) rfl (by kernel_rfl) (by kernel_rfl) (by kernel_rfl) (fun _ _ _ h => h) (Or.inl ⟨by rfl, ?_⟩) (by assumption) ?_
                      rotate_left
                      · (intro w hSw; (try dsimp only at hSw); go_simp; try with_reducible rfl)
                      try simp only [Act.put, List.getElem_toArray, List.getElem_cons_succ, List.getElem_cons_zero, List.setIfInBounds_toArray, List.set_cons_zero, List.set_cons_succ]
                      refine wpAnyH_take (i := 10) (v := ?_) rfl (by kernel_rfl) (by kernel_rfl) (by kernel_rfl) (fun _ _ _ h => h) (Or.inl ⟨by rfl, ?_⟩) (by assumption) ?_
                      rotate_left
                      · (intro w hSw; (try dsimp only at hSw); go_simp; try with_reducible rfl)
                      try simp only [Act.put, List.getElem_toArray, List.getElem_cons_succ, List.getElem_cons_zero, List.setIfInBounds_toArray, List.set_cons_zero, List.set_cons_succ]
                      refine wpAnyH_take (i := 11) (v := ?_) rfl (by kernel_rfl) (by kernel_rfl) (by kernel_rfl) (fun _ _ _ h => h) (Or.inl ⟨by rfl, ?_⟩) (by assumption) ?_
                      rotate_left
                      · (intro w hSw; (try dsimp only at hSw); go_simp; try with_reducible rfl)
                      try simp only [Act.put, List.getElem_toArray, List.getElem_cons_succ, List.getElem_cons_zero, List.setIfInBounds_toArray, List.set_cons_zero, List.set_cons_succ]
                      refine wpAnyH_done (by kernel_rfl) ?_ _
                      go_wp2_with fail
                      go_meet
                      exact ⟨rfl, hHeld⟩
                    case rest =>
                      obtain ⟨rfl, hT⟩ := hcut
                      have HN2 := Lib.hid (HNX.out _ hT)
                      clear HNX HCC hT heq
                      go_wp2_with fail
                      refine ⟨⟨i + 1, HI.out, by simp, HN2.out⟩, ?_⟩
                      have := HI.out
                      simp [intOf]; omega
                · have heq : ∀ w, (Op.equalIn 10000 36 (.agg #[.int .u64 (sgQ jp), .int .i64 (jp : Int)]) (.agg #[.int .u64 (sgQ p), .int .i64 (p : Int)])).run Try.prog w = .ok false w := fun w => equal2 w _ _ _ _ false (by rw [HSQ.out, decide_eq_false he])
                  have hx1 : x1 = x2 := by rw [HVL.out, if_neg (fun h => he h.1)]
                  subst hx1
                  clear he HVL
                  go_cut [110] (fun s110 W2 => s110 = .bool false ∧ Frm.Turn [] w14 W2)
                  case first =>
                    refine wp_region_held_drew (S := fun W' => Frm.Turn [] w14 W') (by kernel_rfl) ?_ (fun hHeld => ?_)
                    · exact (Frm.Turn.refl [] w14).drew
                    refine wpAnyH_take (i := 0) (v := ?_) rfl (by kernel_rfl) (by kernel_rfl) (by kernel_rfl) (fun _ _ _ h => h) (Or.inl ⟨by rfl, ?_⟩) (by assumption) ?_
                    rotate_left
                    · (intro w hSw; (try dsimp only at hSw); go_simp; try with_reducible rfl)
                    try simp only [Act.put, List.getElem_toArray, List.getElem_cons_succ, List.getElem_cons_zero, List.setIfInBounds_toArray, List.set_cons_zero, List.set_cons_succ]
                    refine wpAnyH_take (i := 1) (v := ?_) rfl (by kernel_rfl) (by kernel_rfl) (by kernel_rfl) (fun _ _ _ h => h) (Or.inl ⟨by rfl, ?_⟩) (by assumption) ?_
                    rotate_left
                    · (intro w hSw; (try dsimp only at hSw); go_simp; try with_reducible rfl)
                    try simp only [Act.put, List.getElem_toArray, List.getElem_cons_succ, List.getElem_cons_zero, List.setIfInBounds_toArray, List.set_cons_zero, List.set_cons_succ]
                    refine wpAnyH_take (i := 2) (v := ?_) rfl (by kernel_rfl) (by kernel_rfl) (by kernel_rfl) (fun _ _ _ h => h) (Or.inl ⟨by rfl, ?_⟩) (by assumption) ?_
                    rotate_left
                    · (intro w hSw; (try dsimp only at hSw); go_simp; try with_reducible rfl)
                    try simp only [Act.put, List.getElem_toArray, List.getElem_cons_succ, List.getElem_cons_zero, List.setIfInBounds_toArray, List.set_cons_zero, List.set_cons_succ]
                    refine wpAnyH_take (i := 3) (v := ?_) rfl (by kernel_rfl) (by kernel_rfl) (by kernel_rfl) (fun _ _ _ h => h) (Or.inl ⟨by rfl, ?_⟩) (by assumption) ?_
                    rotate_left
                    · (intro w hSw; (try dsimp only at hSw); go_simp; try with_reducible rfl)
                    try simp only [Act.put, List.getElem_toArray, List.getElem_cons_succ, List.getElem_cons_zero, List.setIfInBounds_toArray, List.set_cons_zero, List.set_cons_succ]
                    refine wpAnyH_take (i := 4) (v := ?_) rfl (by kernel_rfl) (by kernel_rfl) (by kernel_rfl) (fun _ _ _ h => h) (Or.inl ⟨by rfl, ?_⟩) (by assumption) ?_
                    rotate_left
                    · (intro w hSw; (try dsimp only at hSw); obtain ⟨⟨c0, c1⟩, c2, c3⟩ := HCC.out w hSw; go_simp; try with_reducible rfl)
                    try simp only [Act.put, List.getElem_toArray, List.getElem_cons_succ, List.getElem_cons_zero, List.setIfInBounds_toArray, List.set_cons_zero, List.set_cons_succ]
                    refine wpAnyH_take (i := 5) (v := ?_) rfl (by kernel_rfl) (by kernel_rfl) (by kernel_rfl) (fun _ _ _ h => h) (Or.inl ⟨by rfl, ?_⟩) (by assumption) ?_
                    rotate_left
                    · (intro w hSw; (try dsimp only at hSw); obtain ⟨⟨c0, c1⟩, c2, c3⟩ := HCC.out w hSw; go_simp; try with_reducible rfl)
                    try simp only [Act.put, List.getElem_toArray, List.getElem_cons_succ, List.getElem_cons_zero, List.setIfInBounds_toArray, List.set_cons_zero, List.set_cons_succ]
                    refine wpAnyH_take (i := 6) (v := ?_) rfl (by kernel_rfl) (by kernel_rfl) (by kernel_rfl) (fun _ _ _ h => h) (Or.inl ⟨by rfl, ?_⟩) (by assumption) ?_
                    rotate_left
                    · (intro w hSw; (try dsimp only at hSw); go_simp; try with_reducible rfl)
                    try simp only [Act.put, List.getElem_toArray, List.getElem_cons_succ, List.getElem_cons_zero, List.setIfInBounds_toArray, List.set_cons_zero, List.set_cons_succ]
                    refine wpAnyH_take (i := 7) (v := ?_) rfl (by kernel_rfl) (by kernel_rfl) (by kernel_rfl) (fun _ _ _ h => h) (Or.inl ⟨by rfl, ?_⟩) (by assumption) ?_
                    rotate_left
                    · (intro w hSw; (try dsimp only at hSw); go_simp; try with_reducible rfl)
                    try simp only [Act.put, List.getElem_toArray, List.getElem_cons_succ, List.getElem_cons_zero, List.setIfInBounds_toArray, List.set_cons_zero, List.set_cons_succ]
                    refine wpAnyH_take (i := 8) (v := undef) rfl (by kernel_rfl) (by kernel_rfl) (by kernel_rfl) (fun _ _ _ h => h) (Or.inr ⟨by rfl, rfl⟩) (by assumption) ?_
                    try simp only [Act.put, List.getElem_toArray, List.getElem_cons_succ, List.getElem_cons_zero, List.setIfInBounds_toArray, List.set_cons_zero, List.set_cons_succ]
                    refine wpAnyH_take (i := 9) (v := undef) rfl (by kernel_rfl) (by kernel_rfl) (by kernel_rfl) (fun _ _ _ h => h) (Or.inr ⟨by rfl, rfl⟩) (by assumption) ?_
                    try simp only [Act.put, List.getElem_toArray, List.getElem_cons_succ, List.getElem_cons_zero, List.setIfInBounds_toArray, List.set_cons_zero, List.set_cons_succ]
                    refine wpAnyH_take (i := 10) (v := undef) rfl (by kernel_rfl) (by kernel_rfl) (by kernel_rfl) (fun _ _ _ h => h) (Or.inr ⟨by rfl, rfl⟩) (by assumption) ?_
                    try simp only [Act.put, List.getElem_toArray, List.getElem_cons_succ, List.getElem_cons_zero, List.setIfInBounds_toArray, List.set_cons_zero, List.set_cons_succ]
                    refine wpAnyH_take (i := 11) (v := ?_) rfl (by kernel_rfl) (by kernel_rfl) (by kernel_rfl) (fun _ _ _ h => h) (Or.inl ⟨by rfl, ?_⟩) (by assumption) ?_
                    rotate_left
                    · (intro w hSw; (try dsimp only at hSw); go_simp; try with_reducible rfl)
                    try simp only [Act.put, List.getElem_toArray, List.getElem_cons_succ, List.getElem_cons_zero, List.setIfInBounds_toArray, List.set_cons_zero, List.set_cons_succ]
                    refine wpAnyH_done (by kernel_rfl) ?_ _
                    go_wp2_with fail
                    go_meet
                    exact ⟨rfl, hHeld⟩
                  case rest =>
                    obtain ⟨rfl, hT⟩ := hcut
                    have HN2 := Lib.hid (HNX.out _ hT)
                    clear HNX HCC hT heq
                    go_wp2_with fail
                    refine ⟨⟨i + 1, HI.out, by simp, HN2.out⟩, ?_⟩
                    have := HI.out
                    simp [intOf]; omega
              · obtain rfl : i = 15 := by omega
                have hi3 : ¬ ((15 : Nat) : Int) < 15 := by omega
                obtain ⟨A, k, M2, A2, n2, hS, hV, hV2, hw, hL, hB, hn2, hk⟩ := hrel
                have HS := Lib.hid hS
                have HDN := Lib.hid (cdone_h (r := rc) (C := crC p 5) hS (by simp [crP]) (by show (if (5 : Nat) = 0 then 1 else if (5 : Nat) = 1 then 2 else 0) ≤ 2; decide))
                have HDN : Hid (Calls Try.prog 23 #[.pointer (some ⟨rc, 0, none⟩)] wr fun e w' => e = .returned (.bool true) ∧ wr = w') := HDN
                have hta := tally_h hS
                have HTB : Hid (∀ W', Frm.Turn [] wr W' → Calls Try.prog 24 #[.pointer (some ⟨b2, 0, none⟩)] W' fun e w' => e = .returned (tal A2.t) ∧ Frm.Turn [] W' w') := Lib.hid (fun W' hT => tally2_h (hS.still hT))
                unfold tal at hta HTB
                rw [hw] at hta
                have HTA := Lib.hid hta
                have HTW := Lib.hid hS.kin.turn
                have hb2 : A2.t.writes ≤ 100 := by have := hL.writes; omega
                obtain ⟨wt, hwt⟩ : ∃ wt, wt = A2.t.writes := ⟨_, rfl⟩
                rw [← hwt] at HTA HTB hb2
                have w0 : (0 : Int) ≤ (wt : Int) := by omega
                have w1 : (wt : Int) ≤ 100 := by omega
                have hc2 : ((wt + 2 : Nat) : Int) = (wt : Int) + 2 := by omega
                rw [hc2] at HTA
                generalize (A.t.lays : Int) = t0 at HTA
                generalize (A.t.frees : Int) = t1 at HTA
                generalize (A.t.reads : Int) = t2 at HTA
                generalize (A.t.swaps : Int) = t3 at HTA
                generalize (A.t.adds : Int) = t4 at HTA
                generalize (A2.t.lays : Int) = s0 at HTB
                generalize (A2.t.frees : Int) = s1 at HTB
                generalize (A2.t.reads : Int) = s2 at HTB
                generalize (A2.t.swaps : Int) = s3 at HTB
                generalize (A2.t.adds : Int) = s4 at HTB
                clear hS hV hV2 hw hL hB hn2 hk hta hlt hi hwt hb2 hc2
                have hfa : ∀ W : World, (Instr.field 30 (.agg #[.int .i64 t0, .int .i64 t1, .int .i64 t2, .int .i64 ((wt : Int) + 2), .int .i64 t3, .int .i64 t4]) 3).run Try.prog W = .ok (.int .i64 ((wt : Int) + 2)) W := fun W => by kernel_rfl
                have hfb : ∀ W : World, (Instr.field 30 (.agg #[.int .i64 s0, .int .i64 s1, .int .i64 s2, .int .i64 (wt : Int), .int .i64 s3, .int .i64 s4]) 3).run Try.prog W = .ok (.int .i64 (wt : Int)) W := fun W => by kernel_rfl
                go_wp2_with (first
                  | (go_at_call 23; (with_reducible refine (HDN.out).mono ?_); rintro e w19 ⟨rfl, rfl⟩)
                  | (go_at_call 24; (with_reducible refine (HTA.out).mono ?_); rintro e w20 ⟨rfl, hT⟩; have HT20 := Lib.hid hT; clear hT)
                  | (go_at_call 24; (with_reducible refine (HTB.out _ HT20.out).mono ?_); rintro e w21 ⟨rfl, hT⟩; have HT21 := Lib.hid hT; clear hT))
                go_ret
                exact ⟨rfl, (HTW.out.trans HT20.out (by simp)).trans HT21.out (by simp)⟩
end Hld
end Go.Proofs.Ytfbnidjcimcfoaa
