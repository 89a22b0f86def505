/- first of law 13. -/
import Derived.Test.YtfbnidjcimcfoaaGreatCollLaw
import Derived.Deep.CutBlock
set_option linter.unusedVariables false
set_option linter.unusedSimpArgs false
namespace Go.Proofs.YtfbnidjcimcfoaaGreat
namespace Col
open Go.RowKit Go.Maps Arn Pac Clm Cnt

def sl3 (i : Nat) : Nat := if i = 0 then 6 else if i = 1 then 0 else 4
theorem first_facts1 : (iterO 1 zF 3).ph = 2 ∧ (iterO 1 zF 3).L = [] ∧ (iterO 1 zF 3).m = 1 ∧ rdO 1 zF 3 = 3 := by decide +kernel
theorem first_facts2 : (iterO 3 (fun g j => ((tF sl3 3 g j : Nat) : Int)) 60).ph = 2 ∧ (iterO 3 (fun g j => ((tF sl3 3 g j : Nat) : Int)) 60).L = [0, 4, 6] := by decide +kernel
theorem sl3_facts : ∀ j, j < 3 → sl3 j < 255 ∧ sgN (sl3 j) < 3 := fun j hj => by
  have : j = 0 ∨ j = 1 ∨ j = 2 := by omega
  rcases this with rfl | rfl | rfl <;> exact ⟨by decide, by decide⟩
theorem crew_of {w W : World} {b k kh : Nat} {K : List Nat} {A : Ar} {ohs : Obj} (h : Kin w b K A k W) (hk : kh ∈ K) (ho : W.heap[kh]? = some ohs) (hl : w.heap.size ≤ kh) : Crew w b [(kh, ohs)] 1 (fun _ => kh) (fun _ => kh) (fun _ => none) A k W :=
  crew_new h (fun p hp => by rw [List.mem_singleton.1 hp]; exact ⟨hk, ho, hl⟩) (by simp) hk
theorem ent_more {w W : World} {b n m : Nat} {X : List (Nat × Obj)} {sl : Nat → Nat} (h : EntR w b X n sl m W) (o : Obj) : EntR w b ((W.heap.size, o) :: X) n sl m (W.alloc o) := by
  obtain ⟨rr, qq, c, A, k, S, h1, h2⟩ := h
  exact ⟨rr, qq, c, A, k, S.more ((Frm.Turn.refl [] W).alloc o) (Nat.le_refl _) (World.alloc_heap_new W o), h1, h2⟩
theorem lit3_cell {W : World} {lb m : Nat} (h : W.heap[lb]? = some (.cells #[.int .i64 6, .int .i64 0, .int .i64 4] 3 (0, 0))) (hm : m < 3) : W.cell? ⟨lb, m, none⟩ = some (.int .i64 (sl3 m)) := by
  rw [Frm.cell_row _ _ m _ _ _ h]
  have : m = 0 ∨ m = 1 ∨ m = 2 := by omega
  rcases this with rfl | rfl | rfl <;> rfl
set_option maxRecDepth 100000 in
set_option maxHeartbeats 4000000 in
theorem first13 (w : World) : Calls Tryz.prog 31 #[] w fun e w' => e = .returned (.bool true) ∧ Frm.Turn [] w w' := by
  obtain ⟨fs, hfs⟩ := struct_of under_refA
  have HFS := Lib.hid hfs
  have HS1 := Lib.hid (segsN 1 w w (Frm.Turn.refl [] w) (by omega) (by omega))
  have HSN3 := Lib.hid (fun W (hT : Frm.Turn [] w W) => segsN 3 w W hT (by omega) (by omega))
  have e1 : ((1 : Nat) : Int) = 1 := rfl
  have e3 : ((3 : Nat) : Int) = 3 := rfl
  rw [e1] at HS1
  rw [e3] at HSN3
  clear e1 e3
  go_enter Tryz.func31, Tryz.ntmps31
  go_upto_region 2 with (first
    | (go_at_call 7; (with_reducible refine (HS1.out).mono ?_); rintro e w2 ⟨b, CS, kh, c, ohs, A, k, K, rfl, z1, z2, z3, z4, z5, z6, z7, z8, z9, z10⟩; have HZ1 := Lib.hid z1; have HZ2 := Lib.hid z2; have HQ := Lib.hid (And.intro z3 (And.intro z4 (And.intro z5 (And.intro z7 (And.intro z8 (And.intro z9 z10)))))); have HO := Lib.hid z6; clear z1 z2 z3 z4 z5 z6 z7 z8 z9 z10)
    | (refine wpList_store_row rfl 37 (.tmp 2) (.tmp 18) rfl w2.heap.size CS rfl rfl 37 _ (World.alloc_heap_new w2 _) (by rw [HZ1.out]; exact info_refA) (by rw [HZ1.out]; rfl) HZ2.out ?_))
  generalize hw5 : World.setRow _ w2.heap.size CS = w5
  have HT5 : Hid (Frm.Turn [] w2 w5) := Lib.hid (by rw [← hw5]; exact setRow_turn ((Frm.Turn.refl [] w2).alloc _) (.inr (Nat.le_refl _)) CS)
  obtain ⟨q1, q2, q3, q4, q5, q6, q7⟩ := HQ.out
  have hcr := crew_of (q1.step HT5.out) q2 (HT5.out.keep q3 (by simp)) q4
  have HN := Lib.hid (col_new (R := 0) (k0 := 20) hcr (by omega) q6 q7)
  have HOH := HO
  clear hw5 HS1 HQ HT5 HZ1 HZ2 q1 q2 q3 q4 q5 q6 q7 hcr HO
  go_upto_region 3 with (go_at_call 32; (with_reducible refine (HN.out).mono ?_); rintro e w6 ⟨r, rfl, hc⟩; have HC6 := Lib.hid hc; clear hc)
  clear HN
  go_wp2_with fail
  go_loopw [22] (fun i wr => ∃ j : Nat, j ≤ 3 ∧ i = .int .i64 j ∧ ColR w b [(kh, ohs)] 1 zF 20 0 r j wr) (fun i _ => 3 - (intOf i).toNat)
  case atStart => exact ⟨0, Nat.zero_le _, rfl, HC6.out⟩
  case round =>
    obtain ⟨j, hj, rfl, hrel⟩ := hrel
    clear HC6
    by_cases hlt : j < 3
    · have HST := Lib.hid (col_step hrel (by omega) (by omega))
      have hj1 : (j : Int) < 3 := by omega
      clear hrel
      go_wp2_with (go_at_call 34; (with_reducible refine (HST.out).mono ?_); rintro e w7 ⟨rfl, hg⟩; have HG7 := Lib.hid hg; clear hg)
      refine ⟨⟨j + 1, by omega, by simp, HG7.out⟩, ?_⟩
      simp [intOf]; omega
    · obtain rfl : j = 3 := by omega
      have hj3 : ¬ ((3 : Nat) : Int) < 3 := by omega
      have HC := Lib.hid hrel
      obtain ⟨f1, f2, f3, f4⟩ := first_facts1
      have HD : Hid (∀ W, Frm.Turn [] wr W → Calls Tryz.prog 33 #[.pointer (some ⟨r, 0, none⟩)] W fun e w' => e = .returned (.bool true) ∧ W = w') := Lib.hid (fun W hT => by
        have := (HC.out.turn hT).done (by omega)
        rw [f1] at this
        exact this)
      have HP : Hid (∀ W, Frm.Turn [] wr W → Calls Tryz.prog 37 #[.pointer (some ⟨r, 0, none⟩)] W fun e w' => (∃ ao ac, e = .returned (.slice ao 0 ac)) ∧ Frm.Turn [] W w') := Lib.hid (fun W hT => by
        have := (HC.out.turn hT).places (by omega)
        rw [f2] at this
        refine this.mono ?_
        rintro e w' ⟨u, rfl, ho, hT2⟩
        obtain ⟨ao, ac, rfl⟩ := Frm.row_form ho
        exact ⟨⟨ao, ac, rfl⟩, hT2⟩)
      have HG0 : Hid (∀ W, Frm.Turn [] wr W → Calls Tryz.prog 38 #[.pointer (some ⟨r, 0, none⟩), .int .i64 0] W fun e w' => e = .returned (.int .u64 (hS 0)) ∧ W = w') := Lib.hid (fun W hT => by
        have := (HC.out.turn hT).seg (g := 0) (by omega)
        rw [f3] at this
        exact this)
      have HG1 : Hid (∀ W, Frm.Turn [] wr W → Calls Tryz.prog 38 #[.pointer (some ⟨r, 0, none⟩), .int .i64 1] W fun e w' => e = .returned (.int .u64 0) ∧ W = w') := Lib.hid (fun W hT => by
        have := (HC.out.turn hT).seg (g := 1) (by omega)
        rw [f3] at this
        exact this)
      have HTL : Hid (∀ W, Frm.Turn [] wr W → ∃ t0 t1 t3 t4 t5 : Int, Calls Tryz.prog 73 #[.pointer (some ⟨b, 0, none⟩)] W fun e w' => e = .returned (.agg #[.int .i64 t0, .int .i64 t1, .int .i64 3, .int .i64 t3, .int .i64 t4, .int .i64 t5]) ∧ Frm.Turn [] W w') := Lib.hid (fun W hT => by
        have := (HC.out.turn hT).tally
        rw [f4] at this
        exact this)
      have hfd : ∀ (t0 t1 t2 t3 t4 t5 : Int) (W : World), (Instr.field 35 (.agg #[.int .i64 t0, .int .i64 t1, .int .i64 t2, .int .i64 t3, .int .i64 t4, .int .i64 t5]) 2).run Tryz.prog W = .ok (.int .i64 t2) W := fun t0 t1 t2 t3 t4 t5 W => by kernel_rfl
      have HX : Hid (∀ W, Frm.Turn [] wr W → W.cell? ⟨kh, 0, none⟩ = some (.int .u64 (hS 0))) := Lib.hid (fun W hT => HOH.out _ ((HC.out.turn hT).x (List.Mem.head _)) 0 (by omega))
      have HTB := Lib.hid hrel.since
      clear hrel hlt hj f1 f2 f3 f4
      go_upto_region 7 with fail
      go_cut [54] (fun s54 W2 => s54 = .bool false ∧ Frm.Turn [] wr W2)
      case first =>
        refine wp_region_held_drew (S := fun W' => Frm.Turn [] wr W') (by kernel_rfl) ?_ (fun hHeld => ?_)
        · exact (Frm.Turn.refl [] wr).drew
        refine wpAnyH_take (i := 0) (v := ?_) rfl (by kernel_rfl) (by kernel_rfl) (by kernel_rfl) (fun _ _ _ h => h) (Or.inl ⟨by rfl, ?_⟩) (by assumption) ?_
        rotate_left
        · (intro w hSw; (try dsimp only at hSw); go_simp; try with_reducible rfl)
        try simp only [Act.put, List.getElem_toArray, List.getElem_cons_succ, List.getElem_cons_zero, List.setIfInBounds_toArray, List.set_cons_zero, List.set_cons_succ]
        refine wpAnyH_ready (rs := [1]) (by kernel_rfl) (by simp) ?_
        refine AllReadyH.cons rfl (fun K hK => ?_) AllReadyH.nil
        try simp only [List.getElem_toArray, List.getElem_cons_succ, List.getElem_cons_zero]
        go_simp
        (go_at_call 33; (with_reducible refine (HD.out _ hHeld).mono ?_); rintro e wd ⟨rfl, rfl⟩)
        try go_wp2_with fail
        refine hK.out _ _ (hHeld) (fun hHeld1 => ?_)
        clear hK K
        try simp only [Act.put, List.getElem_toArray, List.getElem_cons_succ, List.getElem_cons_zero, List.setIfInBounds_toArray, List.set_cons_zero, List.set_cons_succ]
        refine wpAnyH_take (i := 2) (v := ?_) rfl (by kernel_rfl) (by kernel_rfl) (by kernel_rfl) (fun _ _ _ h => h) (Or.inl ⟨by rfl, ?_⟩) (by assumption) ?_
        rotate_left
        · (intro w hSw; (try dsimp only at hSw); go_simp; try with_reducible rfl)
        try simp only [Act.put, List.getElem_toArray, List.getElem_cons_succ, List.getElem_cons_zero, List.setIfInBounds_toArray, List.set_cons_zero, List.set_cons_succ]
        refine wpAnyH_take (i := 3) (v := ?_) rfl (by kernel_rfl) (by kernel_rfl) (by kernel_rfl) (fun _ _ _ h => h) (Or.inl ⟨by rfl, ?_⟩) (by assumption) ?_
        rotate_left
        · (intro w hSw; (try dsimp only at hSw); go_simp; try with_reducible rfl)
        try simp only [Act.put, List.getElem_toArray, List.getElem_cons_succ, List.getElem_cons_zero, List.setIfInBounds_toArray, List.set_cons_zero, List.set_cons_succ]
        refine wpAnyH_take (i := 4) (v := ?_) rfl (by kernel_rfl) (by kernel_rfl) (by kernel_rfl) (fun _ _ _ h => h) (Or.inl ⟨by rfl, ?_⟩) (by assumption) ?_
        rotate_left
        · (intro w hSw; (try dsimp only at hSw); go_simp; try with_reducible rfl)
        try simp only [Act.put, List.getElem_toArray, List.getElem_cons_succ, List.getElem_cons_zero, List.setIfInBounds_toArray, List.set_cons_zero, List.set_cons_succ]
        refine wpAnyH_ready (rs := [5]) (by kernel_rfl) (by simp) ?_
        refine AllReadyH.cons rfl (fun K hK => ?_) AllReadyH.nil
        try simp only [List.getElem_toArray, List.getElem_cons_succ, List.getElem_cons_zero]
        go_simp
        (go_at_call 37; (with_reducible refine (HP.out _ hHeld1).mono ?_); rintro e wp ⟨⟨ao, ac, rfl⟩, hT2⟩)
        try go_wp2_with fail
        refine hK.out _ _ (hHeld1.trans hT2 (by simp)) (fun hHeld2 => ?_)
        clear hK K
        try simp only [Act.put, List.getElem_toArray, List.getElem_cons_succ, List.getElem_cons_zero, List.setIfInBounds_toArray, List.set_cons_zero, List.set_cons_succ]
        refine wpAnyH_take (i := 6) (v := ?_) rfl (by kernel_rfl) (by kernel_rfl) (by kernel_rfl) (fun _ _ _ h => h) (Or.inl ⟨by rfl, ?_⟩) (by assumption) ?_
        rotate_left
        · (intro w hSw; (try dsimp only at hSw); go_simp; try with_reducible rfl)
        try simp only [Act.put, List.getElem_toArray, List.getElem_cons_succ, List.getElem_cons_zero, List.setIfInBounds_toArray, List.set_cons_zero, List.set_cons_succ]
        refine wpAnyH_take (i := 7) (v := ?_) rfl (by kernel_rfl) (by kernel_rfl) (by kernel_rfl) (fun _ _ _ h => h) (Or.inl ⟨by rfl, ?_⟩) (by assumption) ?_
        rotate_left
        · (intro w hSw; (try dsimp only at hSw); go_simp; try with_reducible rfl)
        try simp only [Act.put, List.getElem_toArray, List.getElem_cons_succ, List.getElem_cons_zero, List.setIfInBounds_toArray, List.set_cons_zero, List.set_cons_succ]
        refine wpAnyH_take (i := 8) (v := ?_) rfl (by kernel_rfl) (by kernel_rfl) (by kernel_rfl) (fun _ _ _ h => h) (Or.inl ⟨by rfl, ?_⟩) (by assumption) ?_
        rotate_left
        · (intro w hSw; (try dsimp only at hSw); go_simp; try with_reducible rfl)
        try simp only [Act.put, List.getElem_toArray, List.getElem_cons_succ, List.getElem_cons_zero, List.setIfInBounds_toArray, List.set_cons_zero, List.set_cons_succ]
        refine wpAnyH_take (i := 9) (v := ?_) rfl (by kernel_rfl) (by kernel_rfl) (by kernel_rfl) (fun _ _ _ h => h) (Or.inl ⟨by rfl, ?_⟩) (by assumption) ?_
        rotate_left
        · (intro w hSw; (try dsimp only at hSw); go_simp; try with_reducible rfl)
        try simp only [Act.put, List.getElem_toArray, List.getElem_cons_succ, List.getElem_cons_zero, List.setIfInBounds_toArray, List.set_cons_zero, List.set_cons_succ]
        refine wpAnyH_take (i := 10) (v := ?_) rfl (by kernel_rfl) (by kernel_rfl) (by kernel_rfl) (fun _ _ _ h => h) (Or.inl ⟨by rfl, ?_⟩) (by assumption) ?_
        rotate_left
        · (intro w hSw; (try dsimp only at hSw); go_simp; try with_reducible rfl)
        try simp only [Act.put, List.getElem_toArray, List.getElem_cons_succ, List.getElem_cons_zero, List.setIfInBounds_toArray, List.set_cons_zero, List.set_cons_succ]
        refine wpAnyH_take (i := 12) (v := ?_) rfl (by kernel_rfl) (by kernel_rfl) (by kernel_rfl) (fun _ _ _ h => h) (Or.inl ⟨by rfl, ?_⟩) (by assumption) ?_
        rotate_left
        · (intro w hSw; (try dsimp only at hSw); go_simp; try with_reducible rfl)
        try simp only [Act.put, List.getElem_toArray, List.getElem_cons_succ, List.getElem_cons_zero, List.setIfInBounds_toArray, List.set_cons_zero, List.set_cons_succ]
        refine wpAnyH_take (i := 13) (v := ?_) rfl (by kernel_rfl) (by kernel_rfl) (by kernel_rfl) (fun _ _ _ h => h) (Or.inl ⟨by rfl, ?_⟩) (by assumption) ?_
        rotate_left
        · (intro w hSw; (try dsimp only at hSw); go_simp; try with_reducible rfl)
        try simp only [Act.put, List.getElem_toArray, List.getElem_cons_succ, List.getElem_cons_zero, List.setIfInBounds_toArray, List.set_cons_zero, List.set_cons_succ]
        refine wpAnyH_take (i := 14) (v := ?_) rfl (by kernel_rfl) (by kernel_rfl) (by kernel_rfl) (fun _ _ _ h => h) (Or.inl ⟨by rfl, ?_⟩) (by assumption) ?_
        rotate_left
        · (intro w hSw; (try dsimp only at hSw); have y0 := HX.out w hSw; go_simp; try with_reducible rfl)
        try simp only [Act.put, List.getElem_toArray, List.getElem_cons_succ, List.getElem_cons_zero, List.setIfInBounds_toArray, List.set_cons_zero, List.set_cons_succ]
        refine wpAnyH_ready (rs := [11]) (by kernel_rfl) (by simp) ?_
        refine AllReadyH.cons rfl (fun K hK => ?_) AllReadyH.nil
        try simp only [List.getElem_toArray, List.getElem_cons_succ, List.getElem_cons_zero]
        go_simp
        (go_at_call 38; (with_reducible refine (HG0.out _ hHeld2).mono ?_); rintro e wd ⟨rfl, rfl⟩)
        try go_wp2_with fail
        refine hK.out _ _ (hHeld2) (fun hHeld3 => ?_)
        clear hK K
        try simp only [Act.put, List.getElem_toArray, List.getElem_cons_succ, List.getElem_cons_zero, List.setIfInBounds_toArray, List.set_cons_zero, List.set_cons_succ]
        refine wpAnyH_take (i := 15) (v := ?_) rfl (by kernel_rfl) (by kernel_rfl) (by kernel_rfl) (fun _ _ _ h => h) (Or.inl ⟨by rfl, ?_⟩) (by assumption) ?_
        rotate_left
        · (intro w hSw; (try dsimp only at hSw); go_simp; try with_reducible rfl)
        try simp only [Act.put, List.getElem_toArray, List.getElem_cons_succ, List.getElem_cons_zero, List.setIfInBounds_toArray, List.set_cons_zero, List.set_cons_succ]
        refine wpAnyH_take (i := 16) (v := ?_) rfl (by kernel_rfl) (by kernel_rfl) (by kernel_rfl) (fun _ _ _ h => h) (Or.inl ⟨by rfl, ?_⟩) (by assumption) ?_
        rotate_left
        · (intro w hSw; (try dsimp only at hSw); go_simp; try with_reducible rfl)
        try simp only [Act.put, List.getElem_toArray, List.getElem_cons_succ, List.getElem_cons_zero, List.setIfInBounds_toArray, List.set_cons_zero, List.set_cons_succ]
        refine wpAnyH_take (i := 17) (v := ?_) rfl (by kernel_rfl) (by kernel_rfl) (by kernel_rfl) (fun _ _ _ h => h) (Or.inl ⟨by rfl, ?_⟩) (by assumption) ?_
        rotate_left
        · (intro w hSw; (try dsimp only at hSw); go_simp; try with_reducible rfl)
        try simp only [Act.put, List.getElem_toArray, List.getElem_cons_succ, List.getElem_cons_zero, List.setIfInBounds_toArray, List.set_cons_zero, List.set_cons_succ]
        refine wpAnyH_take (i := 18) (v := ?_) rfl (by kernel_rfl) (by kernel_rfl) (by kernel_rfl) (fun _ _ _ h => h) (Or.inl ⟨by rfl, ?_⟩) (by assumption) ?_
        rotate_left
        · (intro w hSw; (try dsimp only at hSw); go_simp; try with_reducible rfl)
        try simp only [Act.put, List.getElem_toArray, List.getElem_cons_succ, List.getElem_cons_zero, List.setIfInBounds_toArray, List.set_cons_zero, List.set_cons_succ]
        refine wpAnyH_ready (rs := [19]) (by kernel_rfl) (by simp) ?_
        refine AllReadyH.cons rfl (fun K hK => ?_) AllReadyH.nil
        try simp only [List.getElem_toArray, List.getElem_cons_succ, List.getElem_cons_zero]
        go_simp
        (go_at_call 38; (with_reducible refine (HG1.out _ hHeld3).mono ?_); rintro e wd ⟨rfl, rfl⟩)
        try go_wp2_with fail
        refine hK.out _ _ (hHeld3) (fun hHeld4 => ?_)
        clear hK K
        try simp only [Act.put, List.getElem_toArray, List.getElem_cons_succ, List.getElem_cons_zero, List.setIfInBounds_toArray, List.set_cons_zero, List.set_cons_succ]
        refine wpAnyH_take (i := 20) (v := ?_) rfl (by kernel_rfl) (by kernel_rfl) (by kernel_rfl) (fun _ _ _ h => h) (Or.inl ⟨by rfl, ?_⟩) (by assumption) ?_
        rotate_left
        · (intro w hSw; (try dsimp only at hSw); go_simp; try with_reducible rfl)
        try simp only [Act.put, List.getElem_toArray, List.getElem_cons_succ, List.getElem_cons_zero, List.setIfInBounds_toArray, List.set_cons_zero, List.set_cons_succ]
        refine wpAnyH_take (i := 21) (v := ?_) rfl (by kernel_rfl) (by kernel_rfl) (by kernel_rfl) (fun _ _ _ h => h) (Or.inl ⟨by rfl, ?_⟩) (by assumption) ?_
        rotate_left
        · (intro w hSw; (try dsimp only at hSw); go_simp; try with_reducible rfl)
        try simp only [Act.put, List.getElem_toArray, List.getElem_cons_succ, List.getElem_cons_zero, List.setIfInBounds_toArray, List.set_cons_zero, List.set_cons_succ]
        refine wpAnyH_take (i := 22) (v := ?_) rfl (by kernel_rfl) (by kernel_rfl) (by kernel_rfl) (fun _ _ _ h => h) (Or.inl ⟨by rfl, ?_⟩) (by assumption) ?_
        rotate_left
        · (intro w hSw; (try dsimp only at hSw); go_simp; try with_reducible rfl)
        try simp only [Act.put, List.getElem_toArray, List.getElem_cons_succ, List.getElem_cons_zero, List.setIfInBounds_toArray, List.set_cons_zero, List.set_cons_succ]
        refine wpAnyH_take (i := 23) (v := ?_) rfl (by kernel_rfl) (by kernel_rfl) (by kernel_rfl) (fun _ _ _ h => h) (Or.inl ⟨by rfl, ?_⟩) (by assumption) ?_
        rotate_left
        · (intro w hSw; (try dsimp only at hSw); go_simp; try with_reducible rfl)
        try simp only [Act.put, List.getElem_toArray, List.getElem_cons_succ, List.getElem_cons_zero, List.setIfInBounds_toArray, List.set_cons_zero, List.set_cons_succ]
        refine wpAnyH_ready (rs := [24]) (by kernel_rfl) (by simp) ?_
        refine AllReadyH.cons rfl (fun K hK => ?_) AllReadyH.nil
        try simp only [List.getElem_toArray, List.getElem_cons_succ, List.getElem_cons_zero]
        go_simp
        obtain ⟨t0, t1, t3, t4, t5, htl⟩ := HTL.out _ hHeld4
        (go_at_call 73; (with_reducible refine htl.mono ?_); rintro e wt ⟨rfl, hT5⟩)
        try go_wp2_with fail
        refine hK.out _ _ (hHeld4.trans hT5 (by simp)) (fun hHeld5 => ?_)
        clear hK K
        try simp only [Act.put, List.getElem_toArray, List.getElem_cons_succ, List.getElem_cons_zero, List.setIfInBounds_toArray, List.set_cons_zero, List.set_cons_succ]
        refine wpAnyH_take (i := 25) (v := ?_) rfl (by kernel_rfl) (by kernel_rfl) (by kernel_rfl) (fun _ _ _ h => h) (Or.inl ⟨by rfl, ?_⟩) (by assumption) ?_
        rotate_left
        · (intro w hSw; (try dsimp only at hSw); go_simp; try with_reducible rfl)
        try simp only [Act.put, List.getElem_toArray, List.getElem_cons_succ, List.getElem_cons_zero, List.setIfInBounds_toArray, List.set_cons_zero, List.set_cons_succ]
        refine wpAnyH_take (i := 26) (v := ?_) rfl (by kernel_rfl) (by kernel_rfl) (by kernel_rfl) (fun _ _ _ h => h) (Or.inl ⟨by rfl, ?_⟩) (by assumption) ?_
        rotate_left
        · (intro w hSw; (try dsimp only at hSw); go_simp; try with_reducible rfl)
        try simp only [Act.put, List.getElem_toArray, List.getElem_cons_succ, List.getElem_cons_zero, List.setIfInBounds_toArray, List.set_cons_zero, List.set_cons_succ]
        refine wpAnyH_take (i := 27) (v := ?_) rfl (by kernel_rfl) (by kernel_rfl) (by kernel_rfl) (fun _ _ _ h => h) (Or.inl ⟨by rfl, ?_⟩) (by assumption) ?_
        rotate_left
        · (intro w hSw; (try dsimp only at hSw); go_simp; try with_reducible rfl)
        try simp only [Act.put, List.getElem_toArray, List.getElem_cons_succ, List.getElem_cons_zero, List.setIfInBounds_toArray, List.set_cons_zero, List.set_cons_succ]
        refine wpAnyH_done (by kernel_rfl) ?_ _
        go_wp2_with fail
        go_meet
        exact ⟨rfl, hHeld5⟩
      case rest =>
        obtain ⟨rfl, hcT⟩ := hcut
        have HS3 := Lib.hid (HSN3.out wc (HTB.out.trans hcT (by simp)))
        clear hcT HC HD HP HG0 HG1 HTL HX HTB HSN3 HOH hfd
        go_upto_region 10 with (first
          | (go_at_call 7; (with_reducible refine (HS3.out).mono ?_); rintro e w12 ⟨b2, CS2, kh2, c2, ohs2, A2, k2, K2, rfl, z1, z2, z3, z4, z5, z6, z7, z8, z9, z10⟩; have HZ1 := Lib.hid z1; have HZ2 := Lib.hid z2; have HQ := Lib.hid (And.intro z3 (And.intro z4 (And.intro z5 (And.intro z7 (And.intro z8 (And.intro z9 z10)))))); have HO := Lib.hid z6; clear z1 z2 z3 z4 z5 z6 z7 z8 z9 z10)
          | (refine wpList_store_row rfl 37 (.tmp 6) (.tmp 58) rfl w12.heap.size CS2 rfl rfl 37 _ (World.alloc_heap_new w12 _) (by rw [HZ1.out]; exact info_refA) (by rw [HZ1.out]; rfl) HZ2.out ?_))
        generalize hw5 : World.setRow _ w12.heap.size CS2 = w5
        have HT5 : Hid (Frm.Turn [] w12 w5) := Lib.hid (by rw [← hw5]; exact setRow_turn ((Frm.Turn.refl [] w12).alloc _) (.inr (Nat.le_refl _)) CS2)
        obtain ⟨q1, q2, q3, q4, q5, q6, q7⟩ := HQ.out
        have hst := ent_first (sl := sl3) (X := [(kh2, ohs2)]) (q1.step HT5.out) (fun p hp => by rw [List.mem_singleton.1 hp]; exact ⟨q2, HT5.out.keep q3 (by simp), q4⟩) (by simp) q2 (by omega) q6
        clear hw5 HS3 HQ HT5 HZ1 HZ2 q1 q2 q3 q4 q5 q6 q7
        have HS5 := Lib.hid (ent_more hst (.cells #[.int .i64 6, .int .i64 0, .int .i64 4] 3))
        clear hst
        generalize hlb : w5.heap.size = lb at HS5
        go_wp2_with fail
        clear hlb
        go_loopw [62] (fun i wr => ∃ m : Nat, m ≤ 3 ∧ i = .int .i64 m ∧ EntR w b2 [(lb, .cells #[.int .i64 6, .int .i64 0, .int .i64 4] 3), (kh2, ohs2)] 3 sl3 m wr) (fun i _ => 3 - (intOf i).toNat)
        case atStart => exact ⟨0, Nat.zero_le _, rfl, HS5.out⟩
        case round =>
          obtain ⟨m, hm, rfl, hrel⟩ := hrel
          clear HS5
          by_cases hlt : m < 3
          · obtain ⟨s1, s2⟩ := sl3_facts m hlt
            have hcl := lit3_cell (hrel.x (List.Mem.head _)) hlt
            have hhs := HO.out _ (hrel.x (List.mem_cons_of_mem _ (List.Mem.head _)))
            have HSG := Lib.hid (fun W => RSegment_any (sl3 m) W s1)
            have hc2 := hhs _ s2
            have HEN : Hid (Calls Tryz.prog 40 #[.pointer (some ⟨b2, 0, none⟩), .agg #[.int .u64 (hS (sgN (sl3 m))), .int .i64 (sl3 m)]] wr fun e w' => ∃ r, e = .returned (.pointer (some ⟨r, 0, none⟩)) ∧ EntM w b2 [(lb, .cells #[.int .i64 6, .int .i64 0, .int .i64 4] 3), (kh2, ohs2)] 3 sl3 m r 0 w') := Lib.hid (by
              refine (enterC_any (b := b2) (hS (sgN (sl3 m))) (sl3 m) wr s1).mono ?_
              rintro e w' ⟨r, q, he, hmd⟩
              exact ⟨r, he, ent_start hrel s1 hmd⟩)
            have HM3 := Lib.hid (And.intro hlt (And.intro s1 s2))
            have hm1 : (m : Int) < 3 := by omega
            have hm0 : (0 : Int) ≤ (m : Int) := by omega
            have g0 : (0 : Int) ≤ (sgN (sl3 m) : Int) := by omega
            have g1 : (sgN (sl3 m) : Int) < 3 := by omega
            clear hrel hhs s1 s2 hlt hm
            go_wp2_with (first
              | (go_at_call 74; (with_reducible refine (HSG.out _).mono ?_); rintro e w13 ⟨rfl, rfl⟩)
              | (go_at_call 40; (with_reducible refine (HEN.out).mono ?_); rintro e w14 ⟨r, rfl, h⟩; have HM4 := Lib.hid h; clear h))
            clear HEN HSG hcl hc2
            go_loopw [79] (fun i wz => ∃ y : Nat, y ≤ 9 ∧ i = .int .i64 y ∧ EntM w b2 [(lb, .cells #[.int .i64 6, .int .i64 0, .int .i64 4] 3), (kh2, ohs2)] 3 sl3 m r y wz) (fun i _ => 9 - (intOf i).toNat)
            case atStart => exact ⟨0, Nat.zero_le _, rfl, HM4.out⟩
            case round =>
              obtain ⟨y, hy, rfl, hmid⟩ := hrel
              clear HM4
              by_cases hlt2 : y < 9
              · have HST := Lib.hid (ent_step hmid HM3.out.2.1 HM3.out.2.2 (by have := HM3.out.1; omega) (by omega))
                have hy1 : (y : Int) < 9 := by omega
                clear hmid
                go_wp2_with (go_at_call 42; (with_reducible refine (HST.out).mono ?_); rintro e w15 ⟨rfl, hg⟩; have HG5 := Lib.hid hg; clear hg)
                refine ⟨⟨y + 1, by omega, by simp, HG5.out⟩, ?_⟩
                simp [intOf]; omega
              · obtain rfl : y = 9 := by omega
                have hy3 : ¬ ((9 : Nat) : Int) < 9 := by omega
                have HE := Lib.hid (ent_end hmid HM3.out.2.1)
                clear hmid hlt2 hy
                go_wp2_with fail
                refine ⟨⟨m + 1, by have := HM3.out.1; omega, by simp, HE.out⟩, ?_⟩
                have := HM3.out.1
                simp [intOf]; omega
          · obtain rfl : m = 3 := by omega
            have hm3 : ¬ ((3 : Nat) : Int) < 3 := by omega
            have hrel2 := hrel
            obtain ⟨rr0, qq0, c0, A0, k0, S0, hk0, I0⟩ := hrel2
            have HN := Lib.hid (col_new (R := A0.t.reads) (k0 := 50) S0 (by omega) I0 rfl)
            clear hrel hlt hm S0 hk0 I0
            go_upto_region 21 with (go_at_call 32; (with_reducible refine (HN.out).mono ?_); rintro e w16 ⟨r2, rfl, hc⟩; have HC16 := Lib.hid hc; clear hc)
            clear HN
            go_wp2_with fail
            go_loopw [87] (fun i wz => ∃ j : Nat, j ≤ 60 ∧ i = .int .i64 j ∧ ColR w b2 [(lb, .cells #[.int .i64 6, .int .i64 0, .int .i64 4] 3), (kh2, ohs2)] 3 (fun g j => ((tF sl3 3 g j : Nat) : Int)) 50 A0.t.reads r2 j wz) (fun i _ => 60 - (intOf i).toNat)
            case atStart => exact ⟨0, Nat.zero_le _, rfl, HC16.out⟩
            case round =>
              obtain ⟨j, hj, rfl, hrel⟩ := hrel
              clear HC16
              by_cases hlt : j < 60
              · have HST := Lib.hid (col_step hrel (by omega) (by omega))
                have hj1 : (j : Int) < 60 := by omega
                clear hrel
                go_wp2_with (go_at_call 34; (with_reducible refine (HST.out).mono ?_); rintro e w17 ⟨rfl, hg⟩; have HG7 := Lib.hid hg; clear hg)
                refine ⟨⟨j + 1, by omega, by simp, HG7.out⟩, ?_⟩
                simp [intOf]; omega
              · obtain rfl : j = 60 := by omega
                have hj3 : ¬ ((60 : Nat) : Int) < 60 := by omega
                obtain ⟨f1, f2⟩ := first_facts2
                have HP : Hid (Calls Tryz.prog 37 #[.pointer (some ⟨r2, 0, none⟩)] wr fun e w' => ∃ g ac, e = .returned (.slice (some ⟨g, 0, none⟩) 3 ac) ∧ w'.heap.size ≤ w'.heap.size ∧ (∀ i x, (plCells [0, 4, 6])[i]? = some x → w'.cell? ⟨g, i, none⟩ = some x) ∧ Frm.Turn [] wr w') := Lib.hid (by
                  have := hrel.places (by omega)
                  rw [f2] at this
                  refine this.mono ?_
                  rintro e w' ⟨u, rfl, ho, hT2⟩
                  obtain ⟨g, ac, rfl, hcell⟩ := row_cells ho (by decide)
                  exact ⟨g, ac, rfl, Nat.le_refl _, hcell, hT2⟩)
                have HD : Hid (∀ W, Frm.Turn [] wr W → Calls Tryz.prog 33 #[.pointer (some ⟨r2, 0, none⟩)] W fun e w' => e = .returned (.bool true) ∧ W = w') := Lib.hid (fun W hT => by
                  have := (hrel.turn hT).done (by omega)
                  rw [f1] at this
                  exact this)
                have HX : Hid (∀ W, Frm.Turn [] wr W → W.cell? ⟨kh2, 0, none⟩ = some (.int .u64 (hS 0)) ∧ W.cell? ⟨kh2, 2, none⟩ = some (.int .u64 (hS 2))) := Lib.hid (fun W hT => by
                  have := HO.out _ ((hrel.turn hT).x (List.mem_cons_of_mem _ (List.Mem.head _)))
                  exact ⟨this 0 (by omega), this 2 (by omega)⟩)
                have HTB := Lib.hid hrel.since
                clear hrel hlt hj f1 f2
                go_upto_region 26 with (go_at_call 37; (with_reducible refine (HP.out).mono ?_); rintro e w18 ⟨g, ac, rfl, _, hcell, hT⟩; have HCL := Lib.hid hcell; have HT18 := Lib.hid hT; clear hcell hT)
                have HPC : Hid (∀ W, Frm.Turn [] w18 W → W.cell? ⟨g, 0, none⟩ = some (.int .u64 (hS 0)) ∧ W.cell? ⟨g, 1, none⟩ = some (.int .i64 0) ∧ W.cell? ⟨g, 2, none⟩ = some (.int .u64 (hS 2)) ∧ W.cell? ⟨g, 3, none⟩ = some (.int .i64 4) ∧ W.cell? ⟨g, 4, none⟩ = some (.int .u64 (hS 2)) ∧ W.cell? ⟨g, 5, none⟩ = some (.int .i64 6)) := Lib.hid (fun W hT => ⟨hT.cell (HCL.out 0 _ rfl) (by simp), hT.cell (HCL.out 1 _ rfl) (by simp), hT.cell (HCL.out 2 _ rfl) (by simp), hT.cell (HCL.out 3 _ rfl) (by simp), hT.cell (HCL.out 4 _ rfl) (by simp), hT.cell (HCL.out 5 _ rfl) (by simp)⟩)
                have heq1 : ∀ w, (Op.equalIn 10000 46 (.agg #[.int .u64 (hS 0), .int .i64 0]) (.agg #[.int .u64 (hS 0), .int .i64 0])).run Tryz.prog w = .ok true w := fun w => equal2 w _ _ _ _ true (by simp)
                have heq2 : ∀ w, (Op.equalIn 10000 46 (.agg #[.int .u64 (hS 2), .int .i64 4]) (.agg #[.int .u64 (hS 2), .int .i64 4])).run Tryz.prog w = .ok true w := fun w => equal2 w _ _ _ _ true (by simp)
                go_cut [0] (fun s0 W2 => s0 = .bool true ∧ Frm.Turn [] wr W2)
                case first =>
                  refine wp_region_held_drew (S := fun W' => Frm.Turn [] w18 W') (by kernel_rfl) ?_ (fun hHeld => ?_)
                  · exact (Frm.Turn.refl [] w18).drew
                  refine wpAnyH_take (i := 0) (v := ?_) rfl (by kernel_rfl) (by kernel_rfl) (by kernel_rfl) (fun _ _ _ h => h) (Or.inl ⟨by rfl, ?_⟩) (by assumption) ?_
                  rotate_left
                  · (intro w hSw; (try dsimp only at hSw); go_simp; try with_reducible rfl)
                  try simp only [Act.put, List.getElem_toArray, List.getElem_cons_succ, List.getElem_cons_zero, List.setIfInBounds_toArray, List.set_cons_zero, List.set_cons_succ]
                  refine wpAnyH_ready (rs := [1]) (by kernel_rfl) (by simp) ?_
                  refine AllReadyH.cons rfl (fun K hK => ?_) AllReadyH.nil
                  try simp only [List.getElem_toArray, List.getElem_cons_succ, List.getElem_cons_zero]
                  go_simp
                  (go_at_call 33; (with_reducible refine (HD.out _ (HT18.out.trans hHeld (by simp))).mono ?_); rintro e wd ⟨rfl, rfl⟩)
                  try go_wp2_with fail
                  refine hK.out _ _ (hHeld) (fun hHeld1 => ?_)
                  clear hK K
                  try simp only [Act.put, List.getElem_toArray, List.getElem_cons_succ, List.getElem_cons_zero, List.setIfInBounds_toArray, List.set_cons_zero, List.set_cons_succ]
                  refine wpAnyH_take (i := 2) (v := ?_) rfl (by kernel_rfl) (by kernel_rfl) (by kernel_rfl) (fun _ _ _ h => h) (Or.inl ⟨by rfl, ?_⟩) (by assumption) ?_
                  rotate_left
                  · (intro w hSw; (try dsimp only at hSw); go_simp; try with_reducible rfl)
                  try simp only [Act.put, List.getElem_toArray, List.getElem_cons_succ, List.getElem_cons_zero, List.setIfInBounds_toArray, List.set_cons_zero, List.set_cons_succ]
                  refine wpAnyH_take (i := 3) (v := ?_) rfl (by kernel_rfl) (by kernel_rfl) (by kernel_rfl) (fun _ _ _ h => h) (Or.inl ⟨by rfl, ?_⟩) (by assumption) ?_
                  rotate_left
                  · (intro w hSw; (try dsimp only at hSw); go_simp; try with_reducible rfl)
                  try simp only [Act.put, List.getElem_toArray, List.getElem_cons_succ, List.getElem_cons_zero, List.setIfInBounds_toArray, List.set_cons_zero, List.set_cons_succ]
                  refine wpAnyH_take (i := 4) (v := ?_) rfl (by kernel_rfl) (by kernel_rfl) (by kernel_rfl) (fun _ _ _ h => h) (Or.inl ⟨by rfl, ?_⟩) (by assumption) ?_
                  rotate_left
                  · (intro w hSw; (try dsimp only at hSw); go_simp; try with_reducible rfl)
                  try simp only [Act.put, List.getElem_toArray, List.getElem_cons_succ, List.getElem_cons_zero, List.setIfInBounds_toArray, List.set_cons_zero, List.set_cons_succ]
                  refine wpAnyH_take (i := 5) (v := ?_) rfl (by kernel_rfl) (by kernel_rfl) (by kernel_rfl) (fun _ _ _ h => h) (Or.inl ⟨by rfl, ?_⟩) (by assumption) ?_
                  rotate_left
                  · (intro w hSw; (try dsimp only at hSw); go_simp; try with_reducible rfl)
                  try simp only [Act.put, List.getElem_toArray, List.getElem_cons_succ, List.getElem_cons_zero, List.setIfInBounds_toArray, List.set_cons_zero, List.set_cons_succ]
                  refine wpAnyH_take (i := 6) (v := ?_) rfl (by kernel_rfl) (by kernel_rfl) (by kernel_rfl) (fun _ _ _ h => h) (Or.inl ⟨by rfl, ?_⟩) (by assumption) ?_
                  rotate_left
                  · (intro w hSw; (try dsimp only at hSw); go_simp; try with_reducible rfl)
                  try simp only [Act.put, List.getElem_toArray, List.getElem_cons_succ, List.getElem_cons_zero, List.setIfInBounds_toArray, List.set_cons_zero, List.set_cons_succ]
                  refine wpAnyH_take (i := 7) (v := ?_) rfl (by kernel_rfl) (by kernel_rfl) (by kernel_rfl) (fun _ _ _ h => h) (Or.inl ⟨by rfl, ?_⟩) (by assumption) ?_
                  rotate_left
                  · (intro w hSw; (try dsimp only at hSw); go_simp; try with_reducible rfl)
                  try simp only [Act.put, List.getElem_toArray, List.getElem_cons_succ, List.getElem_cons_zero, List.setIfInBounds_toArray, List.set_cons_zero, List.set_cons_succ]
                  refine wpAnyH_take (i := 8) (v := ?_) rfl (by kernel_rfl) (by kernel_rfl) (by kernel_rfl) (fun _ _ _ h => h) (Or.inl ⟨by rfl, ?_⟩) (by assumption) ?_
                  rotate_left
                  · (intro w hSw; (try dsimp only at hSw); go_simp; try with_reducible rfl)
                  try simp only [Act.put, List.getElem_toArray, List.getElem_cons_succ, List.getElem_cons_zero, List.setIfInBounds_toArray, List.set_cons_zero, List.set_cons_succ]
                  refine wpAnyH_take (i := 9) (v := ?_) rfl (by kernel_rfl) (by kernel_rfl) (by kernel_rfl) (fun _ _ _ h => h) (Or.inl ⟨by rfl, ?_⟩) (by assumption) ?_
                  rotate_left
                  · (intro w hSw; (try dsimp only at hSw); go_simp; try with_reducible rfl)
                  try simp only [Act.put, List.getElem_toArray, List.getElem_cons_succ, List.getElem_cons_zero, List.setIfInBounds_toArray, List.set_cons_zero, List.set_cons_succ]
                  refine wpAnyH_take (i := 10) (v := ?_) rfl (by kernel_rfl) (by kernel_rfl) (by kernel_rfl) (fun _ _ _ h => h) (Or.inl ⟨by rfl, ?_⟩) (by assumption) ?_
                  rotate_left
                  · (intro w hSw; (try dsimp only at hSw); obtain ⟨p0, p1, p2, p3, p4, p5⟩ := HPC.out w hSw; go_simp; try with_reducible rfl)
                  try simp only [Act.put, List.getElem_toArray, List.getElem_cons_succ, List.getElem_cons_zero, List.setIfInBounds_toArray, List.set_cons_zero, List.set_cons_succ]
                  refine wpAnyH_take (i := 11) (v := ?_) rfl (by kernel_rfl) (by kernel_rfl) (by kernel_rfl) (fun _ _ _ h => h) (Or.inl ⟨by rfl, ?_⟩) (by assumption) ?_
                  rotate_left
                  · (intro w hSw; (try dsimp only at hSw); go_simp; try with_reducible rfl)
                  try simp only [Act.put, List.getElem_toArray, List.getElem_cons_succ, List.getElem_cons_zero, List.setIfInBounds_toArray, List.set_cons_zero, List.set_cons_succ]
                  refine wpAnyH_take (i := 12) (v := ?_) rfl (by kernel_rfl) (by kernel_rfl) (by kernel_rfl) (fun _ _ _ h => h) (Or.inl ⟨by rfl, ?_⟩) (by assumption) ?_
                  rotate_left
                  · (intro w hSw; (try dsimp only at hSw); go_simp; try with_reducible rfl)
                  try simp only [Act.put, List.getElem_toArray, List.getElem_cons_succ, List.getElem_cons_zero, List.setIfInBounds_toArray, List.set_cons_zero, List.set_cons_succ]
                  refine wpAnyH_take (i := 13) (v := ?_) rfl (by kernel_rfl) (by kernel_rfl) (by kernel_rfl) (fun _ _ _ h => h) (Or.inl ⟨by rfl, ?_⟩) (by assumption) ?_
                  rotate_left
                  · (intro w hSw; (try dsimp only at hSw); obtain ⟨p0, p1⟩ := HX.out w (HT18.out.trans hSw (by simp)); go_simp; try with_reducible rfl)
                  try simp only [Act.put, List.getElem_toArray, List.getElem_cons_succ, List.getElem_cons_zero, List.setIfInBounds_toArray, List.set_cons_zero, List.set_cons_succ]
                  refine wpAnyH_take (i := 14) (v := ?_) rfl (by kernel_rfl) (by kernel_rfl) (by kernel_rfl) (fun _ _ _ h => h) (Or.inl ⟨by rfl, ?_⟩) (by assumption) ?_
                  rotate_left
                  · (intro w hSw; (try dsimp only at hSw); go_simp; try with_reducible rfl)
                  try simp only [Act.put, List.getElem_toArray, List.getElem_cons_succ, List.getElem_cons_zero, List.setIfInBounds_toArray, List.set_cons_zero, List.set_cons_succ]
                  refine wpAnyH_take (i := 15) (v := ?_) rfl (by kernel_rfl) (by kernel_rfl) (by kernel_rfl) (fun _ _ _ h => h) (Or.inl ⟨by rfl, ?_⟩) (by assumption) ?_
                  rotate_left
                  · (intro w hSw; (try dsimp only at hSw); go_simp; try with_reducible rfl)
                  try simp only [Act.put, List.getElem_toArray, List.getElem_cons_succ, List.getElem_cons_zero, List.setIfInBounds_toArray, List.set_cons_zero, List.set_cons_succ]
                  refine wpAnyH_take (i := 16) (v := ?_) rfl (by kernel_rfl) (by kernel_rfl) (by kernel_rfl) (fun _ _ _ h => h) (Or.inl ⟨by rfl, ?_⟩) (by assumption) ?_
                  rotate_left
                  · (intro w hSw; (try dsimp only at hSw); go_simp; try with_reducible rfl)
                  try simp only [Act.put, List.getElem_toArray, List.getElem_cons_succ, List.getElem_cons_zero, List.setIfInBounds_toArray, List.set_cons_zero, List.set_cons_succ]
                  refine wpAnyH_take (i := 17) (v := ?_) rfl (by kernel_rfl) (by kernel_rfl) (by kernel_rfl) (fun _ _ _ h => h) (Or.inl ⟨by rfl, ?_⟩) (by assumption) ?_
                  rotate_left
                  · (intro w hSw; (try dsimp only at hSw); go_simp; try with_reducible rfl)
                  try simp only [Act.put, List.getElem_toArray, List.getElem_cons_succ, List.getElem_cons_zero, List.setIfInBounds_toArray, List.set_cons_zero, List.set_cons_succ]
                  refine wpAnyH_take (i := 18) (v := ?_) rfl (by kernel_rfl) (by kernel_rfl) (by kernel_rfl) (fun _ _ _ h => h) (Or.inl ⟨by rfl, ?_⟩) (by assumption) ?_
                  rotate_left
                  · (intro w hSw; (try dsimp only at hSw); go_simp; try with_reducible rfl)
                  try simp only [Act.put, List.getElem_toArray, List.getElem_cons_succ, List.getElem_cons_zero, List.setIfInBounds_toArray, List.set_cons_zero, List.set_cons_succ]
                  refine wpAnyH_take (i := 19) (v := ?_) rfl (by kernel_rfl) (by kernel_rfl) (by kernel_rfl) (fun _ _ _ h => h) (Or.inl ⟨by rfl, ?_⟩) (by assumption) ?_
                  rotate_left
                  · (intro w hSw; (try dsimp only at hSw); go_simp; try with_reducible rfl)
                  try simp only [Act.put, List.getElem_toArray, List.getElem_cons_succ, List.getElem_cons_zero, List.setIfInBounds_toArray, List.set_cons_zero, List.set_cons_succ]
                  refine wpAnyH_take (i := 20) (v := ?_) rfl (by kernel_rfl) (by kernel_rfl) (by kernel_rfl) (fun _ _ _ h => h) (Or.inl ⟨by rfl, ?_⟩) (by assumption) ?_
                  rotate_left
                  · (intro w hSw; (try dsimp only at hSw); obtain ⟨p0, p1, p2, p3, p4, p5⟩ := HPC.out w hSw; go_simp; try with_reducible rfl)
                  try simp only [Act.put, List.getElem_toArray, List.getElem_cons_succ, List.getElem_cons_zero, List.setIfInBounds_toArray, List.set_cons_zero, List.set_cons_succ]
                  refine wpAnyH_take (i := 21) (v := ?_) rfl (by kernel_rfl) (by kernel_rfl) (by kernel_rfl) (fun _ _ _ h => h) (Or.inl ⟨by rfl, ?_⟩) (by assumption) ?_
                  rotate_left
                  · (intro w hSw; (try dsimp only at hSw); go_simp; try with_reducible rfl)
                  try simp only [Act.put, List.getElem_toArray, List.getElem_cons_succ, List.getElem_cons_zero, List.setIfInBounds_toArray, List.set_cons_zero, List.set_cons_succ]
                  refine wpAnyH_take (i := 22) (v := ?_) rfl (by kernel_rfl) (by kernel_rfl) (by kernel_rfl) (fun _ _ _ h => h) (Or.inl ⟨by rfl, ?_⟩) (by assumption) ?_
                  rotate_left
                  · (intro w hSw; (try dsimp only at hSw); go_simp; try with_reducible rfl)
                  try simp only [Act.put, List.getElem_toArray, List.getElem_cons_succ, List.getElem_cons_zero, List.setIfInBounds_toArray, List.set_cons_zero, List.set_cons_succ]
                  refine wpAnyH_take (i := 23) (v := ?_) rfl (by kernel_rfl) (by kernel_rfl) (by kernel_rfl) (fun _ _ _ h => h) (Or.inl ⟨by rfl, ?_⟩) (by assumption) ?_
                  rotate_left
                  · (intro w hSw; (try dsimp only at hSw); obtain ⟨p0, p1⟩ := HX.out w (HT18.out.trans hSw (by simp)); go_simp; try with_reducible rfl)
                  try simp only [Act.put, List.getElem_toArray, List.getElem_cons_succ, List.getElem_cons_zero, List.setIfInBounds_toArray, List.set_cons_zero, List.set_cons_succ]
                  refine wpAnyH_take (i := 24) (v := ?_) rfl (by kernel_rfl) (by kernel_rfl) (by kernel_rfl) (fun _ _ _ h => h) (Or.inl ⟨by rfl, ?_⟩) (by assumption) ?_
                  rotate_left
                  · (intro w hSw; (try dsimp only at hSw); go_simp; try with_reducible rfl)
                  try simp only [Act.put, List.getElem_toArray, List.getElem_cons_succ, List.getElem_cons_zero, List.setIfInBounds_toArray, List.set_cons_zero, List.set_cons_succ]
                  refine wpAnyH_take (i := 25) (v := ?_) rfl (by kernel_rfl) (by kernel_rfl) (by kernel_rfl) (fun _ _ _ h => h) (Or.inl ⟨by rfl, ?_⟩) (by assumption) ?_
                  rotate_left
                  · (intro w hSw; (try dsimp only at hSw); go_simp; try with_reducible rfl)
                  try simp only [Act.put, List.getElem_toArray, List.getElem_cons_succ, List.getElem_cons_zero, List.setIfInBounds_toArray, List.set_cons_zero, List.set_cons_succ]
                  refine wpAnyH_take (i := 26) (v := ?_) rfl (by kernel_rfl) (by kernel_rfl) (by kernel_rfl) (fun _ _ _ h => h) (Or.inl ⟨by rfl, ?_⟩) (by assumption) ?_
                  rotate_left
                  · (intro w hSw; (try dsimp only at hSw); go_simp; try with_reducible rfl)
                  try simp only [Act.put, List.getElem_toArray, List.getElem_cons_succ, List.getElem_cons_zero, List.setIfInBounds_toArray, List.set_cons_zero, List.set_cons_succ]
                  refine wpAnyH_take (i := 27) (v := ?_) rfl (by kernel_rfl) (by kernel_rfl) (by kernel_rfl) (fun _ _ _ h => h) (Or.inl ⟨by rfl, ?_⟩) (by assumption) ?_
                  rotate_left
                  · (intro w hSw; (try dsimp only at hSw); go_simp; try with_reducible rfl)
                  try simp only [Act.put, List.getElem_toArray, List.getElem_cons_succ, List.getElem_cons_zero, List.setIfInBounds_toArray, List.set_cons_zero, List.set_cons_succ]
                  refine wpAnyH_take (i := 28) (v := ?_) rfl (by kernel_rfl) (by kernel_rfl) (by kernel_rfl) (fun _ _ _ h => h) (Or.inl ⟨by rfl, ?_⟩) (by assumption) ?_
                  rotate_left
                  · (intro w hSw; (try dsimp only at hSw); go_simp; try with_reducible rfl)
                  try simp only [Act.put, List.getElem_toArray, List.getElem_cons_succ, List.getElem_cons_zero, List.setIfInBounds_toArray, List.set_cons_zero, List.set_cons_succ]
                  refine wpAnyH_take (i := 29) (v := ?_) rfl (by kernel_rfl) (by kernel_rfl) (by kernel_rfl) (fun _ _ _ h => h) (Or.inl ⟨by rfl, ?_⟩) (by assumption) ?_
                  rotate_left
                  · (intro w hSw; (try dsimp only at hSw); go_simp; try with_reducible rfl)
                  try simp only [Act.put, List.getElem_toArray, List.getElem_cons_succ, List.getElem_cons_zero, List.setIfInBounds_toArray, List.set_cons_zero, List.set_cons_succ]
                  refine wpAnyH_take (i := 30) (v := ?_) rfl (by kernel_rfl) (by kernel_rfl) (by kernel_rfl) (fun _ _ _ h => h) (Or.inl ⟨by rfl, ?_⟩) (by assumption) ?_
                  rotate_left
                  · (intro w hSw; (try dsimp only at hSw); go_simp; try with_reducible rfl)
                  try simp only [Act.put, List.getElem_toArray, List.getElem_cons_succ, List.getElem_cons_zero, List.setIfInBounds_toArray, List.set_cons_zero, List.set_cons_succ]
                  refine wpAnyH_take (i := 31) (v := ?_) rfl (by kernel_rfl) (by kernel_rfl) (by kernel_rfl) (fun _ _ _ h => h) (Or.inl ⟨by rfl, ?_⟩) (by assumption) ?_
                  rotate_left
                  · (intro w hSw; (try dsimp only at hSw); obtain ⟨p0, p1, p2, p3, p4, p5⟩ := HPC.out w hSw; go_simp; try with_reducible rfl)
                  try simp only [Act.put, List.getElem_toArray, List.getElem_cons_succ, List.getElem_cons_zero, List.setIfInBounds_toArray, List.set_cons_zero, List.set_cons_succ]
                  refine wpAnyH_take (i := 32) (v := ?_) rfl (by kernel_rfl) (by kernel_rfl) (by kernel_rfl) (fun _ _ _ h => h) (Or.inl ⟨by rfl, ?_⟩) (by assumption) ?_
                  rotate_left
                  · (intro w hSw; (try dsimp only at hSw); go_simp; try with_reducible rfl)
                  try simp only [Act.put, List.getElem_toArray, List.getElem_cons_succ, List.getElem_cons_zero, List.setIfInBounds_toArray, List.set_cons_zero, List.set_cons_succ]
                  refine wpAnyH_take (i := 33) (v := ?_) rfl (by kernel_rfl) (by kernel_rfl) (by kernel_rfl) (fun _ _ _ h => h) (Or.inl ⟨by rfl, ?_⟩) (by assumption) ?_
                  rotate_left
                  · (intro w hSw; (try dsimp only at hSw); go_simp; try with_reducible rfl)
                  try simp only [Act.put, List.getElem_toArray, List.getElem_cons_succ, List.getElem_cons_zero, List.setIfInBounds_toArray, List.set_cons_zero, List.set_cons_succ]
                  refine wpAnyH_take (i := 34) (v := ?_) rfl (by kernel_rfl) (by kernel_rfl) (by kernel_rfl) (fun _ _ _ h => h) (Or.inl ⟨by rfl, ?_⟩) (by assumption) ?_
                  rotate_left
                  · (intro w hSw; (try dsimp only at hSw); go_simp; try with_reducible rfl)
                  try simp only [Act.put, List.getElem_toArray, List.getElem_cons_succ, List.getElem_cons_zero, List.setIfInBounds_toArray, List.set_cons_zero, List.set_cons_succ]
                  refine wpAnyH_done (by kernel_rfl) ?_ _
                  go_wp2_with fail
                  go_meet
                  exact ⟨rfl, HT18.out.trans hHeld1 (by simp)⟩
                case rest =>
                  obtain ⟨rfl, hcT⟩ := hcut
                  go_wp2_with fail
                  go_ret
                  exact ⟨rfl, HTB.out.trans hcT (by simp)⟩
end Col
end Go.Proofs.YtfbnidjcimcfoaaGreat
