/- The document's environment: Read. -/
/- The document's environment: Swap. -/
/- The document's environment: Begin. -/
/- The accesses of the document's environment, by their places. -/
import Derived.Test.YtlghinjggkgfmaaGreatEnvTook
import Derived.Test.YtlghinjggkgfmaaGreatEnvTie
set_option linter.unusedVariables false
set_option linter.unusedSimpArgs false
namespace Go.Proofs.YtlghinjggkgfmaaGreat
namespace Evn
open Go.RowKit Go.Maps Arn
variable {W W' : World} {eb : Nat} {E : En} {CS CS' : Array Value} {lv : Value} {G G' : List Nat}
set_option maxRecDepth 100000 in
set_option maxHeartbeats 4000000 in
theorem read_any (h : EnAt W eb E CS lv G) (hl : E.log.length ≤ 100000) (ha : E.at_ ≤ 100000) (hok : E.A.Ok) (hf : E.A.faults ≤ 100000000) (hr : E.A.t.reads ≤ 100000000) (b i : Int) :
    Calls Tryz.prog 84 #[.pointer (some ⟨eb, 0, none⟩), .agg #[.int .u64 b, .int .i64 i]] W (AccPost W eb (E.acc (aRead b i)).1 lv G (.int .u64 (E.acc (aRead b i)).2.w)) := by
  have HO := fun o => old_any (h.step ((Frm.Turn.refl [] W).alloc o)) hl ha
  have hlt := h.lt
  have HGL := Lib.hid h.gl
  have HGE := Lib.hid h.ge
  have hbx := World.alloc_heap_new W (.cells #[.int .u64 b, .int .i64 i] 80)
  have HBX0 := Lib.hid hbx
  clear hbx
  obtain ⟨fs, hfs⟩ := struct_of under_refA
  have HFS := Lib.hid hfs
  by_cases hB : E.oldB = true
  · have hdef : E.acc (aRead b i) = (E.oldE, E.oldR) := by unfold En.acc; rw [if_pos hB]
    rw [hdef]
    rw [hB] at HO
    have HO := Lib.hid HO
    clear h hB hdef
    go_enter Tryz.func84, Tryz.ntmps84
    go_wp2_with (first
      | (go_at_call 121; go_must (with_reducible refine (HO.out _).mono ?_); rintro e w1 ⟨rfl, hE1, hT1⟩; have HE1 := Lib.hid hE1; have HT1 := Lib.hid (((Frm.Turn.refl [eb] W).alloc _).trans hT1 (fun k hk => .inl hk)); unfold resV; clear hE1 hT1))
    refine bodyPost_ret (by simp [results, Tryz.results84]) rfl ⟨rfl, CS, lv, G, HE1.out.step ?_, ?_, fun k hk => .inl hk, fun k hk => .inl hk⟩
    · (repeat' first | exact Frm.Turn.refl _ _ | refine Frm.Turn.alloc ?_ _ | refine Frm.Turn.drew ?_ | refine Frm.Turn.drewN ?_ _ | (refine Frm.Turn.setCell ?_ (.inr (by simp)) _))
    · refine HT1.out.trans (G := []) ?_ (by simp)
      (repeat' first | exact Frm.Turn.refl _ _ | refine Frm.Turn.alloc ?_ _ | refine Frm.Turn.drew ?_ | refine Frm.Turn.drewN ?_ _ | (refine Frm.Turn.setCell ?_ (.inr (by simp)) _))
  · have hB : E.oldB = false := by simpa using hB
    have hdef : E.acc (aRead b i) = ({ E.oldE with A := (E.A.read b i).1, log := E.oldE.log ++ [⟨(E.A.read b i).2.1, false, 0⟩] }, ⟨(E.A.read b i).2.1, false, 0⟩) := by unfold En.acc; rw [if_neg (by rw [hB]; simp), (oldE_same E).2]; rfl
    rw [hdef]
    rw [hB, oldR_of hB] at HO
    have HO := Lib.hid HO
    have HEA := Lib.hid (oldE_same E).1
    have HLG : Hid (E.oldE.log.length ≤ 100000) := Lib.hid (by rw [(oldE_same E).2]; exact hl)
    have HOK := Lib.hid hok
    clear h hB hdef
    go_enter Tryz.func84, Tryz.ntmps84
    go_upto_region 3 with (first
      | (go_at_call 121; go_must (with_reducible refine (HO.out _).mono ?_); rintro e w1 ⟨rfl, hE1, hT1⟩; have hb1 := World.alloc_heap_new w1 (.cells #[.int .u64 0, .bool false, .int .i64 0] 213); have HB1 := Lib.hid hb1; have HE1 := Lib.hid (hE1.step ((Frm.Turn.refl [] w1).alloc (.cells #[.int .u64 0, .bool false, .int .i64 0] 213))); have HE1b := Lib.hid hE1; have HLT1 := Lib.hid hE1.lt; have HT1 := Lib.hid (((Frm.Turn.refl [eb] W).alloc _).trans hT1 (fun k hk => .inl hk)); have HRF := Lib.hid (fun W' (hT : Frm.Turn [] (w1.alloc (.cells #[.int .u64 0, .bool false, .int .i64 0] 213)) W') => by (have hm := ((hE1.step ((Frm.Turn.refl [] w1).alloc (.cells #[.int .u64 0, .bool false, .int .i64 0] 213))).step hT).m; rw [HEA.out] at hm; exact refRead_any E.A (.agg CS) G W' hm HOK.out hf hr b i)); have hbq := hT1.keep HBX0.out (by simp; omega); have HBX : Hid (∀ W', Frm.Turn [] (w1.alloc (.cells #[.int .u64 0, .bool false, .int .i64 0] 213)) W' → W'.cell? ⟨W.heap.size, 0, none⟩ = some (.int .u64 b) ∧ W'.cell? ⟨W.heap.size, 1, none⟩ = some (.int .i64 i)) := Lib.hid (fun W' hT => by (have hr := hT.keep (((Frm.Turn.refl [] w1).alloc _).keep hbq (by simp)) (by simp); exact ⟨(Frm.cell_row _ _ 0 _ _ _ hr).trans rfl, (Frm.cell_row _ _ 1 _ _ _ hr).trans rfl⟩)); unfold resV Res.zero; clear hE1 hT1 hb1 hbq))
    generalize hw0 : w1.alloc (.cells #[.int .u64 0, .bool false, .int .i64 0] 213) = w0 at HE1 HRF HBX HB1 ⊢
    have HZ0 : Hid (w0.heap.size = w1.heap.size + 1) := Lib.hid (by rw [← hw0, World.size_alloc])
    have HT0 : Hid (Frm.Turn [eb] W w0) := Lib.hid (by rw [← hw0]; exact HT1.out.alloc _)
    have HE0 := HE1
    clear hw0
    go_cut [7, 8] (fun sa sv W2 => ∃ kb CS' G', sa = .pointer (some ⟨kb, 0, none⟩) ∧ sv = .int .u64 (E.A.read b i).2.1 ∧ Took w0 eb E.oldE CS lv G ((E.A.read b i).1) kb CS' G' W2)
    case first =>
      refine wp_region_held_drew (S := fun W' => Frm.Turn [] w0 W') (by kernel_rfl) ?_ (fun hHeld => ?_)
      · exact (Frm.Turn.refl [] w0).drew
      refine wpAnyH_take (i := 0) (v := ?_) rfl (by kernel_rfl) (by kernel_rfl) (by kernel_rfl) (fun _ _ _ h => h) (Or.inl ⟨by rfl, ?_⟩) (by assumption) ?_
      rotate_left
      · (intro w hSw; (try dsimp only at hSw); go_simp; try with_reducible rfl)
      try simp only [Act.put, List.getElem_toArray, List.getElem_cons_succ, List.getElem_cons_zero, List.setIfInBounds_toArray, List.set_cons_zero, List.set_cons_succ]
      refine wpAnyH_take (i := 1) (v := ?_) rfl (by kernel_rfl) (by kernel_rfl) (by kernel_rfl) (fun _ _ _ h => h) (Or.inl ⟨by rfl, ?_⟩) (by assumption) ?_
      rotate_left
      · (intro w hSw; (try dsimp only at hSw); go_simp; try with_reducible rfl)
      try simp only [Act.put, List.getElem_toArray, List.getElem_cons_succ, List.getElem_cons_zero, List.setIfInBounds_toArray, List.set_cons_zero, List.set_cons_succ]
      refine wpAnyH_take (i := 2) (v := ?_) rfl (by kernel_rfl) (by kernel_rfl) (by kernel_rfl) (fun _ _ _ h => h) (Or.inl ⟨by rfl, ?_⟩) (by assumption) ?_
      rotate_left
      · (intro w hSw; (try dsimp only at hSw); go_simp; try with_reducible rfl)
      try simp only [Act.put, List.getElem_toArray, List.getElem_cons_succ, List.getElem_cons_zero, List.setIfInBounds_toArray, List.set_cons_zero, List.set_cons_succ]
      refine' wpAnyH_take (i := 3) (v := _) rfl (by kernel_rfl) (by kernel_rfl) (by kernel_rfl) (fun _ _ _ h => h) (yieldsIf_load_mid (by rfl) 67 (.tmp 20) rfl eb 0 rfl CS.toList (.struct fs) (fun w hw => (HE0.out.step hw).range) HFS.out rfl (by rw [Array.length_toList, HE0.out.size]; exact info_refA)) (by assumption) ?_
      try simp only [Act.put, List.getElem_toArray, List.getElem_cons_succ, List.getElem_cons_zero, List.setIfInBounds_toArray, List.set_cons_zero, List.set_cons_succ]
      rw [Array.toArray_toList]
      refine wpAnyH_take (i := 4) (v := ?_) rfl (by kernel_rfl) (by kernel_rfl) (by kernel_rfl) (fun _ _ _ h => h) (Or.inl ⟨by rfl, ?_⟩) (by assumption) ?_
      rotate_left
      · (intro w hSw; (try dsimp only at hSw); obtain ⟨x0, x1⟩ := HBX.out w hSw; go_simp; try with_reducible rfl)
      try simp only [Act.put, List.getElem_toArray, List.getElem_cons_succ, List.getElem_cons_zero, List.setIfInBounds_toArray, List.set_cons_zero, List.set_cons_succ]
      refine wpAnyH_ready (rs := [5, 10]) (by kernel_rfl) (by simp) ?_
      refine AllReadyH.cons rfl (fun K hK => ?_) (AllReadyH.cons rfl (fun K hK => ?_) AllReadyH.nil)
      · try simp only [List.getElem_toArray, List.getElem_cons_succ, List.getElem_cons_zero]
        go_simp
        (go_at_call 122; (with_reducible refine (HRF.out _ hHeld).mono ?_); rintro e w2 ⟨u', G', rfl, hR, hT2, hG⟩; obtain ⟨CS', rfl, hz, hone⟩ := hR.row)
        try go_wp2_with fail
        refine hK.out _ _ (hHeld.trans hT2 (by simp)) (fun hHeld2 => ?_)
        clear hK K
        try simp only [Act.put, List.getElem_toArray, List.getElem_cons_succ, List.getElem_cons_zero, List.setIfInBounds_toArray, List.set_cons_zero, List.set_cons_succ]
        refine wpAnyH_take (i := 6) (v := ?_) rfl (by kernel_rfl) (by kernel_rfl) (by kernel_rfl) (fun _ _ _ h => h) (Or.inl ⟨by rfl, ?_⟩) (by assumption) ?_
        rotate_left
        · (intro w hSw; (try dsimp only at hSw); go_simp; try with_reducible rfl)
        try simp only [Act.put, List.getElem_toArray, List.getElem_cons_succ, List.getElem_cons_zero, List.setIfInBounds_toArray, List.set_cons_zero, List.set_cons_succ]
        refine wpAnyH_take (i := 7) (v := ?_) rfl (by kernel_rfl) (by kernel_rfl) (by kernel_rfl) (fun _ _ _ h => h) (Or.inl ⟨by rfl, ?_⟩) (by assumption) ?_
        rotate_left
        · (intro w hSw; (try dsimp only at hSw); go_simp; try with_reducible rfl)
        try simp only [Act.put, List.getElem_toArray, List.getElem_cons_succ, List.getElem_cons_zero, List.setIfInBounds_toArray, List.set_cons_zero, List.set_cons_succ]
        refine wpAnyH_take (i := 8) (v := ?_) rfl (by kernel_rfl) (by kernel_rfl) (by kernel_rfl) (fun _ _ _ h => h) (Or.inl ⟨by rfl, ?_⟩) (by assumption) ?_
        rotate_left
        · (intro w hSw; (try dsimp only at hSw); go_simp; try with_reducible rfl)
        try simp only [Act.put, List.getElem_toArray, List.getElem_cons_succ, List.getElem_cons_zero, List.setIfInBounds_toArray, List.set_cons_zero, List.set_cons_succ]
        refine wpAnyH_take (i := 9) (v := ?_) rfl (by kernel_rfl) (by kernel_rfl) (by kernel_rfl) (fun _ _ _ h => h) (Or.inl ⟨by rfl, ?_⟩) (by assumption) ?_
        rotate_left
        · (intro w hSw; (try dsimp only at hSw); go_simp; try with_reducible rfl)
        try simp only [Act.put, List.getElem_toArray, List.getElem_cons_succ, List.getElem_cons_zero, List.setIfInBounds_toArray, List.set_cons_zero, List.set_cons_succ]
        refine wpAnyH_ready (rs := [10]) (by kernel_rfl) (by simp) ?_
        refine AllReadyH.cons rfl (fun K hK => ?_) AllReadyH.nil
        try simp only [List.getElem_toArray, List.getElem_cons_succ, List.getElem_cons_zero]
        go_simp
        refine hK.out _ _ (hHeld2.alloc _) (fun hHeld1 => ?_)
        clear hK K
        try simp only [Act.put, List.getElem_toArray, List.getElem_cons_succ, List.getElem_cons_zero, List.setIfInBounds_toArray, List.set_cons_zero, List.set_cons_succ]
        refine wpAnyH_ready (rs := [11]) (by kernel_rfl) (by simp) ?_
        refine AllReadyH.cons rfl (fun K hK => ?_) AllReadyH.nil
        try simp only [List.getElem_toArray, List.getElem_cons_succ, List.getElem_cons_zero]
        rw [if_pos (by rfl)]
        refine wp_store_row 67 (.tmp 7) (.tmp 24) rfl w2.heap.size CS' rfl rfl 67 _ (World.alloc_heap_new w2 _) (by rw [hz]; exact info_refA) (by rw [hz]; rfl) hone ?_
        refine hK.out _ _ (setRow_turn (hHeld2.alloc _) (.inr (by first | exact Nat.le_refl _ | exact Nat.le_trans hHeld.size hT2.size)) _) (fun hHeld3 => ?_)
        clear hK K
        try simp only [Act.put, List.getElem_toArray, List.getElem_cons_succ, List.getElem_cons_zero, List.setIfInBounds_toArray, List.set_cons_zero, List.set_cons_succ]
        refine wpAnyH_take (i := 12) (v := ?_) rfl (by kernel_rfl) (by kernel_rfl) (by kernel_rfl) (fun _ _ _ h => h) (Or.inl ⟨by rfl, ?_⟩) (by assumption) ?_
        rotate_left
        · (intro w hSw; (try dsimp only at hSw); go_simp; try with_reducible rfl)
        try simp only [Act.put, List.getElem_toArray, List.getElem_cons_succ, List.getElem_cons_zero, List.setIfInBounds_toArray, List.set_cons_zero, List.set_cons_succ]
        refine wpAnyH_take (i := 13) (v := ?_) rfl (by kernel_rfl) (by kernel_rfl) (by kernel_rfl) (fun _ _ _ h => h) (Or.inl ⟨by rfl, ?_⟩) (by assumption) ?_
        rotate_left
        · (intro w hSw; (try dsimp only at hSw); go_simp; try with_reducible rfl)
        try simp only [Act.put, List.getElem_toArray, List.getElem_cons_succ, List.getElem_cons_zero, List.setIfInBounds_toArray, List.set_cons_zero, List.set_cons_succ]
        refine wpAnyH_done (by kernel_rfl) ?_ _
        go_wp2_with fail
        go_meet
        exact ⟨w2.heap.size, CS', G', rfl, rfl, took_behind HE0.out hHeld hT2 hz hone hR hG _⟩
      · try simp only [List.getElem_toArray, List.getElem_cons_succ, List.getElem_cons_zero]
        go_simp
        refine hK.out _ _ (hHeld.alloc _) (fun hHeld1 => ?_)
        clear hK K
        try simp only [Act.put, List.getElem_toArray, List.getElem_cons_succ, List.getElem_cons_zero, List.setIfInBounds_toArray, List.set_cons_zero, List.set_cons_succ]
        refine wpAnyH_ready (rs := [5]) (by kernel_rfl) (by simp) ?_
        refine AllReadyH.cons rfl (fun K hK => ?_) AllReadyH.nil
        try simp only [List.getElem_toArray, List.getElem_cons_succ, List.getElem_cons_zero]
        go_simp
        (go_at_call 122; (with_reducible refine (HRF.out _ hHeld1).mono ?_); rintro e w2 ⟨u', G', rfl, hR, hT2, hG⟩; obtain ⟨CS', rfl, hz, hone⟩ := hR.row)
        try go_wp2_with fail
        refine hK.out _ _ (hHeld1.trans hT2 (by simp)) (fun hHeld2 => ?_)
        clear hK K
        try simp only [Act.put, List.getElem_toArray, List.getElem_cons_succ, List.getElem_cons_zero, List.setIfInBounds_toArray, List.set_cons_zero, List.set_cons_succ]
        refine wpAnyH_take (i := 6) (v := ?_) rfl (by kernel_rfl) (by kernel_rfl) (by kernel_rfl) (fun _ _ _ h => h) (Or.inl ⟨by rfl, ?_⟩) (by assumption) ?_
        rotate_left
        · (intro w hSw; (try dsimp only at hSw); go_simp; try with_reducible rfl)
        try simp only [Act.put, List.getElem_toArray, List.getElem_cons_succ, List.getElem_cons_zero, List.setIfInBounds_toArray, List.set_cons_zero, List.set_cons_succ]
        refine wpAnyH_take (i := 7) (v := ?_) rfl (by kernel_rfl) (by kernel_rfl) (by kernel_rfl) (fun _ _ _ h => h) (Or.inl ⟨by rfl, ?_⟩) (by assumption) ?_
        rotate_left
        · (intro w hSw; (try dsimp only at hSw); go_simp; try with_reducible rfl)
        try simp only [Act.put, List.getElem_toArray, List.getElem_cons_succ, List.getElem_cons_zero, List.setIfInBounds_toArray, List.set_cons_zero, List.set_cons_succ]
        refine wpAnyH_take (i := 8) (v := ?_) rfl (by kernel_rfl) (by kernel_rfl) (by kernel_rfl) (fun _ _ _ h => h) (Or.inl ⟨by rfl, ?_⟩) (by assumption) ?_
        rotate_left
        · (intro w hSw; (try dsimp only at hSw); go_simp; try with_reducible rfl)
        try simp only [Act.put, List.getElem_toArray, List.getElem_cons_succ, List.getElem_cons_zero, List.setIfInBounds_toArray, List.set_cons_zero, List.set_cons_succ]
        refine wpAnyH_take (i := 9) (v := ?_) rfl (by kernel_rfl) (by kernel_rfl) (by kernel_rfl) (fun _ _ _ h => h) (Or.inl ⟨by rfl, ?_⟩) (by assumption) ?_
        rotate_left
        · (intro w hSw; (try dsimp only at hSw); go_simp; try with_reducible rfl)
        try simp only [Act.put, List.getElem_toArray, List.getElem_cons_succ, List.getElem_cons_zero, List.setIfInBounds_toArray, List.set_cons_zero, List.set_cons_succ]
        refine wpAnyH_ready (rs := [11]) (by kernel_rfl) (by simp) ?_
        refine AllReadyH.cons rfl (fun K hK => ?_) AllReadyH.nil
        try simp only [List.getElem_toArray, List.getElem_cons_succ, List.getElem_cons_zero]
        rw [if_pos (by rfl)]
        refine wp_store_row 67 (.tmp 7) (.tmp 24) rfl w0.heap.size CS' rfl rfl 67 _ (hT2.keep (World.alloc_heap_new w0.drew _) (by simp)) (by rw [hz]; exact info_refA) (by rw [hz]; rfl) hone ?_
        refine hK.out _ _ (setRow_turn hHeld2 (.inr (by first | exact Nat.le_refl _ | exact Nat.le_trans hHeld.size hT2.size)) _) (fun hHeld3 => ?_)
        clear hK K
        try simp only [Act.put, List.getElem_toArray, List.getElem_cons_succ, List.getElem_cons_zero, List.setIfInBounds_toArray, List.set_cons_zero, List.set_cons_succ]
        refine wpAnyH_take (i := 12) (v := ?_) rfl (by kernel_rfl) (by kernel_rfl) (by kernel_rfl) (fun _ _ _ h => h) (Or.inl ⟨by rfl, ?_⟩) (by assumption) ?_
        rotate_left
        · (intro w hSw; (try dsimp only at hSw); go_simp; try with_reducible rfl)
        try simp only [Act.put, List.getElem_toArray, List.getElem_cons_succ, List.getElem_cons_zero, List.setIfInBounds_toArray, List.set_cons_zero, List.set_cons_succ]
        refine wpAnyH_take (i := 13) (v := ?_) rfl (by kernel_rfl) (by kernel_rfl) (by kernel_rfl) (fun _ _ _ h => h) (Or.inl ⟨by rfl, ?_⟩) (by assumption) ?_
        rotate_left
        · (intro w hSw; (try dsimp only at hSw); go_simp; try with_reducible rfl)
        try simp only [Act.put, List.getElem_toArray, List.getElem_cons_succ, List.getElem_cons_zero, List.setIfInBounds_toArray, List.set_cons_zero, List.set_cons_succ]
        refine wpAnyH_done (by kernel_rfl) ?_ _
        go_wp2_with fail
        go_meet
        exact ⟨w0.heap.size, CS', G', rfl, rfl, took_ahead (w1 := w0.drew) HE0.out hHeld _ hT2 hz hone hR hG⟩
    case rest =>
      obtain ⟨kb, CS', G', rfl, rfl, hk⟩ := hcut
      obtain ⟨hrow, hz, hone, hE2, hput, hT2, hGG⟩ := hk
      have HR1 := Lib.hid hrow
      have HR2 := Lib.hid hE2
      have HZ := Lib.hid hz
      have HONE := Lib.hid hone
      have HGG := Lib.hid hGG
      have HR4 := Lib.hid hput.2
      have hd := done_any hput.1 HLG.out ⟨(E.A.read b i).2.1, false, 0⟩
      unfold resV at hd
      dsimp only at hd
      have HD := Lib.hid hd
      clear hd hput hE2 hz hone hrow hT2 hGG
      go_wp2_with (first
        | (refine wpList_load_row rfl 67 (.tmp 7) rfl kb rfl 67 CS' (0, 0) (.struct fs) HR1.out HFS.out rfl (by rw [HZ.out]; exact info_refA) ?_)
        | (refine wpList_store_mid rfl 67 (.tmp 30) (.tmp 28) rfl eb 0 CS' rfl rfl (by rw [HZ.out]; exact HR2.out.there) (by rw [HZ.out]; exact info_refA) HONE.out ?_)
        | (go_at_call 123; go_must (with_reducible refine HD.out.mono ?_); rintro e w4 ⟨rfl, lv4, hE4, hT4, hL4⟩; have hq5 := HR4.out.trans hT4 (fun k hk => .inl hk); have hne : w1.heap.size ≠ eb := Nat.ne_of_gt HLT1.out; obtain ⟨⟨c0, c1, c2⟩, f0, f1, f2⟩ := res_cells (hq5.keep HB1.out (by simpa using hne)); have HE4 := Lib.hid hE4; have HT4 := Lib.hid (HT0.out.trans hq5 (fun k hk => .inl hk)); have HSZ : Hid (w1.heap.size < w4.heap.size) := Lib.hid (by have := hq5.size; have := HZ0.out; omega); have HL4 : Hid (∀ q, lv4.ownBlock = some q → w1.heap.size < q) := Lib.hid (fun q hq => by have h5 := hL4 q hq; have h6 := HR4.out.size; have := HZ0.out; omega); clear hE4 hT4 hL4 hq5))
      have hpa := fun E4 (h4 : EnAt w4 eb E4 CS' lv4 G') (x y z : Value) => put_answer (x := x) (y := y) (z := z) HE1b.out HT1.out rfl HSZ.out h4 HT4.out (fun hk => by rcases HGG.out _ hk with h | h; have := HGL.out _ h; have := HT1.out.size; omega; have := HZ0.out; omega) HL4.out
      obtain ⟨e1, e2⟩ := hpa _ HE4.out (.int .u64 (E.A.read b i).2.1) (.bool false) (.int .i64 0)
      refine bodyPost_ret (by simp [results, Tryz.results84]) rfl ⟨rfl, CS', lv4, G', e1.step ?_, e2.trans (G := []) ?_ (by simp), fun q hq => by rcases HGG.out q hq with h | h; exact .inl h; exact .inr (by have := HT1.out.size; have := HZ0.out; omega), fun q hq => .inr (by have := HL4.out q hq; have := HT1.out.size; omega)⟩
      · (repeat' first | exact Frm.Turn.refl _ _ | refine Frm.Turn.alloc ?_ _ | refine Frm.Turn.drew ?_ | refine Frm.Turn.drewN ?_ _ | (refine Frm.Turn.setCell ?_ (.inr (by simp)) _))
      · (repeat' first | exact Frm.Turn.refl _ _ | refine Frm.Turn.alloc ?_ _ | refine Frm.Turn.drew ?_ | refine Frm.Turn.drewN ?_ _ | (refine Frm.Turn.setCell ?_ (.inr (by simp)) _))
end Evn
end Go.Proofs.YtlghinjggkgfmaaGreat

set_option linter.unusedVariables false
set_option linter.unusedSimpArgs false
namespace Go.Proofs.YtlghinjggkgfmaaGreat
namespace Evn
open Go.RowKit Go.Maps Arn
variable {W W' : World} {eb : Nat} {E : En} {CS CS' : Array Value} {lv : Value} {G G' : List Nat}
set_option maxRecDepth 100000 in
set_option maxHeartbeats 4000000 in
theorem swap_any (h : EnAt W eb E CS lv G) (hl : E.log.length ≤ 100000) (ha : E.at_ ≤ 100000) (hok : E.A.Ok) (hf : E.A.faults ≤ 100000000) (hr : E.A.t.swaps ≤ 100000000) (b i o n : Int) :
    Calls Tryz.prog 221 #[.pointer (some ⟨eb, 0, none⟩), .agg #[.int .u64 b, .int .i64 i], .int .u64 o, .int .u64 n] W (AccPost W eb (E.acc (aSwap b i o n)).1 lv G (.bool (E.acc (aSwap b i o n)).2.ok)) := by
  have HO := fun o => old_any (h.step ((Frm.Turn.refl [] W).alloc o)) hl ha
  have hlt := h.lt
  have HGL := Lib.hid h.gl
  have HGE := Lib.hid h.ge
  have hbx := World.alloc_heap_new W (.cells #[.int .u64 b, .int .i64 i] 80)
  have HBX0 := Lib.hid hbx
  clear hbx
  obtain ⟨fs, hfs⟩ := struct_of under_refA
  have HFS := Lib.hid hfs
  by_cases hB : E.oldB = true
  · have hdef : E.acc (aSwap b i o n) = (E.oldE, E.oldR) := by unfold En.acc; rw [if_pos hB]
    rw [hdef]
    rw [hB] at HO
    have HO := Lib.hid HO
    clear h hB hdef
    go_enter Tryz.func221, Tryz.ntmps221
    go_wp2_with (first
      | (go_at_call 121; go_must (with_reducible refine (HO.out _).mono ?_); rintro e w1 ⟨rfl, hE1, hT1⟩; have HE1 := Lib.hid hE1; have HT1 := Lib.hid (((Frm.Turn.refl [eb] W).alloc _).trans hT1 (fun k hk => .inl hk)); unfold resV; clear hE1 hT1))
    refine bodyPost_ret (by simp [results, Tryz.results221]) rfl ⟨rfl, CS, lv, G, HE1.out.step ?_, ?_, fun k hk => .inl hk, fun k hk => .inl hk⟩
    · (repeat' first | exact Frm.Turn.refl _ _ | refine Frm.Turn.alloc ?_ _ | refine Frm.Turn.drew ?_ | refine Frm.Turn.drewN ?_ _ | (refine Frm.Turn.setCell ?_ (.inr (by simp)) _))
    · refine HT1.out.trans (G := []) ?_ (by simp)
      (repeat' first | exact Frm.Turn.refl _ _ | refine Frm.Turn.alloc ?_ _ | refine Frm.Turn.drew ?_ | refine Frm.Turn.drewN ?_ _ | (refine Frm.Turn.setCell ?_ (.inr (by simp)) _))
  · have hB : E.oldB = false := by simpa using hB
    have hdef : E.acc (aSwap b i o n) = ({ E.oldE with A := (E.A.swap b i o n).1, log := E.oldE.log ++ [⟨0, (E.A.swap b i o n).2.1, 0⟩] }, ⟨0, (E.A.swap b i o n).2.1, 0⟩) := by unfold En.acc; rw [if_neg (by rw [hB]; simp), (oldE_same E).2]; rfl
    rw [hdef]
    rw [hB, oldR_of hB] at HO
    have HO := Lib.hid HO
    have HEA := Lib.hid (oldE_same E).1
    have HLG : Hid (E.oldE.log.length ≤ 100000) := Lib.hid (by rw [(oldE_same E).2]; exact hl)
    have HOK := Lib.hid hok
    clear h hB hdef
    go_enter Tryz.func221, Tryz.ntmps221
    go_upto_region 3 with (first
      | (go_at_call 121; go_must (with_reducible refine (HO.out _).mono ?_); rintro e w1 ⟨rfl, hE1, hT1⟩; have hb1 := World.alloc_heap_new w1 (.cells #[.int .u64 0, .bool false, .int .i64 0] 213); have HB1 := Lib.hid hb1; have HE1 := Lib.hid (hE1.step ((Frm.Turn.refl [] w1).alloc (.cells #[.int .u64 0, .bool false, .int .i64 0] 213))); have HE1b := Lib.hid hE1; have HLT1 := Lib.hid hE1.lt; have HT1 := Lib.hid (((Frm.Turn.refl [eb] W).alloc _).trans hT1 (fun k hk => .inl hk)); have HRF := Lib.hid (fun W' (hT : Frm.Turn [] (w1.alloc (.cells #[.int .u64 0, .bool false, .int .i64 0] 213)) W') => by (have hm := ((hE1.step ((Frm.Turn.refl [] w1).alloc (.cells #[.int .u64 0, .bool false, .int .i64 0] 213))).step hT).m; rw [HEA.out] at hm; exact refSwap_any E.A (.agg CS) G W' hm HOK.out hf hr b i o n (fun k hk => by have := hE1.gl k hk; have := hT.size; simp at this; omega))); have hbq := hT1.keep HBX0.out (by simp; omega); have HBX : Hid (∀ W', Frm.Turn [] (w1.alloc (.cells #[.int .u64 0, .bool false, .int .i64 0] 213)) W' → W'.cell? ⟨W.heap.size, 0, none⟩ = some (.int .u64 b) ∧ W'.cell? ⟨W.heap.size, 1, none⟩ = some (.int .i64 i)) := Lib.hid (fun W' hT => by (have hr := hT.keep (((Frm.Turn.refl [] w1).alloc _).keep hbq (by simp)) (by simp); exact ⟨(Frm.cell_row _ _ 0 _ _ _ hr).trans rfl, (Frm.cell_row _ _ 1 _ _ _ hr).trans rfl⟩)); unfold resV Res.zero; clear hE1 hT1 hb1 hbq))
    generalize hw0 : w1.alloc (.cells #[.int .u64 0, .bool false, .int .i64 0] 213) = w0 at HE1 HRF HBX HB1 ⊢
    have HZ0 : Hid (w0.heap.size = w1.heap.size + 1) := Lib.hid (by rw [← hw0, World.size_alloc])
    have HT0 : Hid (Frm.Turn [eb] W w0) := Lib.hid (by rw [← hw0]; exact HT1.out.alloc _)
    have HE0 := HE1
    clear hw0
    go_cut [11, 12] (fun sa sv W2 => ∃ kb CS' G', sa = .pointer (some ⟨kb, 0, none⟩) ∧ sv = .bool (E.A.swap b i o n).2.1 ∧ Took w0 eb E.oldE CS lv G ((E.A.swap b i o n).1) kb CS' G' W2)
    case first =>
      refine wp_region_held_drew (S := fun W' => Frm.Turn [] w0 W') (by kernel_rfl) ?_ (fun hHeld => ?_)
      · exact (Frm.Turn.refl [] w0).drew
      refine wpAnyH_take (i := 0) (v := ?_) rfl (by kernel_rfl) (by kernel_rfl) (by kernel_rfl) (fun _ _ _ h => h) (Or.inl ⟨by rfl, ?_⟩) (by assumption) ?_
      rotate_left
      · (intro w hSw; (try dsimp only at hSw); go_simp; try with_reducible rfl)
      try simp only [Act.put, List.getElem_toArray, List.getElem_cons_succ, List.getElem_cons_zero, List.setIfInBounds_toArray, List.set_cons_zero, List.set_cons_succ]
      refine wpAnyH_take (i := 1) (v := ?_) rfl (by kernel_rfl) (by kernel_rfl) (by kernel_rfl) (fun _ _ _ h => h) (Or.inl ⟨by rfl, ?_⟩) (by assumption) ?_
      rotate_left
      · (intro w hSw; (try dsimp only at hSw); go_simp; try with_reducible rfl)
      try simp only [Act.put, List.getElem_toArray, List.getElem_cons_succ, List.getElem_cons_zero, List.setIfInBounds_toArray, List.set_cons_zero, List.set_cons_succ]
      refine wpAnyH_take (i := 2) (v := ?_) rfl (by kernel_rfl) (by kernel_rfl) (by kernel_rfl) (fun _ _ _ h => h) (Or.inl ⟨by rfl, ?_⟩) (by assumption) ?_
      rotate_left
      · (intro w hSw; (try dsimp only at hSw); go_simp; try with_reducible rfl)
      try simp only [Act.put, List.getElem_toArray, List.getElem_cons_succ, List.getElem_cons_zero, List.setIfInBounds_toArray, List.set_cons_zero, List.set_cons_succ]
      refine' wpAnyH_take (i := 3) (v := _) rfl (by kernel_rfl) (by kernel_rfl) (by kernel_rfl) (fun _ _ _ h => h) (yieldsIf_load_mid (by rfl) 67 (.tmp 24) rfl eb 0 rfl CS.toList (.struct fs) (fun w hw => (HE0.out.step hw).range) HFS.out rfl (by rw [Array.length_toList, HE0.out.size]; exact info_refA)) (by assumption) ?_
      try simp only [Act.put, List.getElem_toArray, List.getElem_cons_succ, List.getElem_cons_zero, List.setIfInBounds_toArray, List.set_cons_zero, List.set_cons_succ]
      rw [Array.toArray_toList]
      refine wpAnyH_take (i := 4) (v := ?_) rfl (by kernel_rfl) (by kernel_rfl) (by kernel_rfl) (fun _ _ _ h => h) (Or.inl ⟨by rfl, ?_⟩) (by assumption) ?_
      rotate_left
      · (intro w hSw; (try dsimp only at hSw); obtain ⟨x0, x1⟩ := HBX.out w hSw; go_simp; try with_reducible rfl)
      try simp only [Act.put, List.getElem_toArray, List.getElem_cons_succ, List.getElem_cons_zero, List.setIfInBounds_toArray, List.set_cons_zero, List.set_cons_succ]
      refine wpAnyH_take (i := 5) (v := ?_) rfl (by kernel_rfl) (by kernel_rfl) (by kernel_rfl) (fun _ _ _ h => h) (Or.inl ⟨by rfl, ?_⟩) (by assumption) ?_
      rotate_left
      · (intro w hSw; (try dsimp only at hSw); go_simp; try with_reducible rfl)
      try simp only [Act.put, List.getElem_toArray, List.getElem_cons_succ, List.getElem_cons_zero, List.setIfInBounds_toArray, List.set_cons_zero, List.set_cons_succ]
      refine wpAnyH_take (i := 6) (v := ?_) rfl (by kernel_rfl) (by kernel_rfl) (by kernel_rfl) (fun _ _ _ h => h) (Or.inl ⟨by rfl, ?_⟩) (by assumption) ?_
      rotate_left
      · (intro w hSw; (try dsimp only at hSw); go_simp; try with_reducible rfl)
      try simp only [Act.put, List.getElem_toArray, List.getElem_cons_succ, List.getElem_cons_zero, List.setIfInBounds_toArray, List.set_cons_zero, List.set_cons_succ]
      refine wpAnyH_ready (rs := [7, 12]) (by kernel_rfl) (by simp) ?_
      refine AllReadyH.cons rfl (fun K hK => ?_) (AllReadyH.cons rfl (fun K hK => ?_) AllReadyH.nil)
      · try simp only [List.getElem_toArray, List.getElem_cons_succ, List.getElem_cons_zero]
        go_simp
        (go_at_call 220; (with_reducible refine (HRF.out _ hHeld).mono ?_); rintro e w2 ⟨u', G', rfl, hR, hT2, hG⟩; obtain ⟨CS', rfl, hz, hone⟩ := hR.row)
        try go_wp2_with fail
        refine hK.out _ _ (hHeld.trans hT2 (by simp)) (fun hHeld2 => ?_)
        clear hK K
        try simp only [Act.put, List.getElem_toArray, List.getElem_cons_succ, List.getElem_cons_zero, List.setIfInBounds_toArray, List.set_cons_zero, List.set_cons_succ]
        refine wpAnyH_take (i := 8) (v := ?_) rfl (by kernel_rfl) (by kernel_rfl) (by kernel_rfl) (fun _ _ _ h => h) (Or.inl ⟨by rfl, ?_⟩) (by assumption) ?_
        rotate_left
        · (intro w hSw; (try dsimp only at hSw); go_simp; try with_reducible rfl)
        try simp only [Act.put, List.getElem_toArray, List.getElem_cons_succ, List.getElem_cons_zero, List.setIfInBounds_toArray, List.set_cons_zero, List.set_cons_succ]
        refine wpAnyH_take (i := 9) (v := ?_) rfl (by kernel_rfl) (by kernel_rfl) (by kernel_rfl) (fun _ _ _ h => h) (Or.inl ⟨by rfl, ?_⟩) (by assumption) ?_
        rotate_left
        · (intro w hSw; (try dsimp only at hSw); go_simp; try with_reducible rfl)
        try simp only [Act.put, List.getElem_toArray, List.getElem_cons_succ, List.getElem_cons_zero, List.setIfInBounds_toArray, List.set_cons_zero, List.set_cons_succ]
        refine wpAnyH_take (i := 10) (v := ?_) rfl (by kernel_rfl) (by kernel_rfl) (by kernel_rfl) (fun _ _ _ h => h) (Or.inl ⟨by rfl, ?_⟩) (by assumption) ?_
        rotate_left
        · (intro w hSw; (try dsimp only at hSw); go_simp; try with_reducible rfl)
        try simp only [Act.put, List.getElem_toArray, List.getElem_cons_succ, List.getElem_cons_zero, List.setIfInBounds_toArray, List.set_cons_zero, List.set_cons_succ]
        refine wpAnyH_take (i := 11) (v := ?_) rfl (by kernel_rfl) (by kernel_rfl) (by kernel_rfl) (fun _ _ _ h => h) (Or.inl ⟨by rfl, ?_⟩) (by assumption) ?_
        rotate_left
        · (intro w hSw; (try dsimp only at hSw); go_simp; try with_reducible rfl)
        try simp only [Act.put, List.getElem_toArray, List.getElem_cons_succ, List.getElem_cons_zero, List.setIfInBounds_toArray, List.set_cons_zero, List.set_cons_succ]
        refine wpAnyH_ready (rs := [12]) (by kernel_rfl) (by simp) ?_
        refine AllReadyH.cons rfl (fun K hK => ?_) AllReadyH.nil
        try simp only [List.getElem_toArray, List.getElem_cons_succ, List.getElem_cons_zero]
        go_simp
        refine hK.out _ _ (hHeld2.alloc _) (fun hHeld1 => ?_)
        clear hK K
        try simp only [Act.put, List.getElem_toArray, List.getElem_cons_succ, List.getElem_cons_zero, List.setIfInBounds_toArray, List.set_cons_zero, List.set_cons_succ]
        refine wpAnyH_ready (rs := [13]) (by kernel_rfl) (by simp) ?_
        refine AllReadyH.cons rfl (fun K hK => ?_) AllReadyH.nil
        try simp only [List.getElem_toArray, List.getElem_cons_succ, List.getElem_cons_zero]
        rw [if_pos (by rfl)]
        refine wp_store_row 67 (.tmp 11) (.tmp 30) rfl w2.heap.size CS' rfl rfl 67 _ (World.alloc_heap_new w2 _) (by rw [hz]; exact info_refA) (by rw [hz]; rfl) hone ?_
        refine hK.out _ _ (setRow_turn (hHeld2.alloc _) (.inr (by first | exact Nat.le_refl _ | exact Nat.le_trans hHeld.size hT2.size)) _) (fun hHeld3 => ?_)
        clear hK K
        try simp only [Act.put, List.getElem_toArray, List.getElem_cons_succ, List.getElem_cons_zero, List.setIfInBounds_toArray, List.set_cons_zero, List.set_cons_succ]
        refine wpAnyH_take (i := 14) (v := ?_) rfl (by kernel_rfl) (by kernel_rfl) (by kernel_rfl) (fun _ _ _ h => h) (Or.inl ⟨by rfl, ?_⟩) (by assumption) ?_
        rotate_left
        · (intro w hSw; (try dsimp only at hSw); go_simp; try with_reducible rfl)
        try simp only [Act.put, List.getElem_toArray, List.getElem_cons_succ, List.getElem_cons_zero, List.setIfInBounds_toArray, List.set_cons_zero, List.set_cons_succ]
        refine wpAnyH_take (i := 15) (v := ?_) rfl (by kernel_rfl) (by kernel_rfl) (by kernel_rfl) (fun _ _ _ h => h) (Or.inl ⟨by rfl, ?_⟩) (by assumption) ?_
        rotate_left
        · (intro w hSw; (try dsimp only at hSw); go_simp; try with_reducible rfl)
        try simp only [Act.put, List.getElem_toArray, List.getElem_cons_succ, List.getElem_cons_zero, List.setIfInBounds_toArray, List.set_cons_zero, List.set_cons_succ]
        refine wpAnyH_done (by kernel_rfl) ?_ _
        go_wp2_with fail
        go_meet
        exact ⟨w2.heap.size, CS', G', rfl, rfl, took_behind HE0.out hHeld hT2 hz hone hR hG _⟩
      · try simp only [List.getElem_toArray, List.getElem_cons_succ, List.getElem_cons_zero]
        go_simp
        refine hK.out _ _ (hHeld.alloc _) (fun hHeld1 => ?_)
        clear hK K
        try simp only [Act.put, List.getElem_toArray, List.getElem_cons_succ, List.getElem_cons_zero, List.setIfInBounds_toArray, List.set_cons_zero, List.set_cons_succ]
        refine wpAnyH_ready (rs := [7]) (by kernel_rfl) (by simp) ?_
        refine AllReadyH.cons rfl (fun K hK => ?_) AllReadyH.nil
        try simp only [List.getElem_toArray, List.getElem_cons_succ, List.getElem_cons_zero]
        go_simp
        (go_at_call 220; (with_reducible refine (HRF.out _ hHeld1).mono ?_); rintro e w2 ⟨u', G', rfl, hR, hT2, hG⟩; obtain ⟨CS', rfl, hz, hone⟩ := hR.row)
        try go_wp2_with fail
        refine hK.out _ _ (hHeld1.trans hT2 (by simp)) (fun hHeld2 => ?_)
        clear hK K
        try simp only [Act.put, List.getElem_toArray, List.getElem_cons_succ, List.getElem_cons_zero, List.setIfInBounds_toArray, List.set_cons_zero, List.set_cons_succ]
        refine wpAnyH_take (i := 8) (v := ?_) rfl (by kernel_rfl) (by kernel_rfl) (by kernel_rfl) (fun _ _ _ h => h) (Or.inl ⟨by rfl, ?_⟩) (by assumption) ?_
        rotate_left
        · (intro w hSw; (try dsimp only at hSw); go_simp; try with_reducible rfl)
        try simp only [Act.put, List.getElem_toArray, List.getElem_cons_succ, List.getElem_cons_zero, List.setIfInBounds_toArray, List.set_cons_zero, List.set_cons_succ]
        refine wpAnyH_take (i := 9) (v := ?_) rfl (by kernel_rfl) (by kernel_rfl) (by kernel_rfl) (fun _ _ _ h => h) (Or.inl ⟨by rfl, ?_⟩) (by assumption) ?_
        rotate_left
        · (intro w hSw; (try dsimp only at hSw); go_simp; try with_reducible rfl)
        try simp only [Act.put, List.getElem_toArray, List.getElem_cons_succ, List.getElem_cons_zero, List.setIfInBounds_toArray, List.set_cons_zero, List.set_cons_succ]
        refine wpAnyH_take (i := 10) (v := ?_) rfl (by kernel_rfl) (by kernel_rfl) (by kernel_rfl) (fun _ _ _ h => h) (Or.inl ⟨by rfl, ?_⟩) (by assumption) ?_
        rotate_left
        · (intro w hSw; (try dsimp only at hSw); go_simp; try with_reducible rfl)
        try simp only [Act.put, List.getElem_toArray, List.getElem_cons_succ, List.getElem_cons_zero, List.setIfInBounds_toArray, List.set_cons_zero, List.set_cons_succ]
        refine wpAnyH_take (i := 11) (v := ?_) rfl (by kernel_rfl) (by kernel_rfl) (by kernel_rfl) (fun _ _ _ h => h) (Or.inl ⟨by rfl, ?_⟩) (by assumption) ?_
        rotate_left
        · (intro w hSw; (try dsimp only at hSw); go_simp; try with_reducible rfl)
        try simp only [Act.put, List.getElem_toArray, List.getElem_cons_succ, List.getElem_cons_zero, List.setIfInBounds_toArray, List.set_cons_zero, List.set_cons_succ]
        refine wpAnyH_ready (rs := [13]) (by kernel_rfl) (by simp) ?_
        refine AllReadyH.cons rfl (fun K hK => ?_) AllReadyH.nil
        try simp only [List.getElem_toArray, List.getElem_cons_succ, List.getElem_cons_zero]
        rw [if_pos (by rfl)]
        refine wp_store_row 67 (.tmp 11) (.tmp 30) rfl w0.heap.size CS' rfl rfl 67 _ (hT2.keep (World.alloc_heap_new w0.drew _) (by simp)) (by rw [hz]; exact info_refA) (by rw [hz]; rfl) hone ?_
        refine hK.out _ _ (setRow_turn hHeld2 (.inr (by first | exact Nat.le_refl _ | exact Nat.le_trans hHeld.size hT2.size)) _) (fun hHeld3 => ?_)
        clear hK K
        try simp only [Act.put, List.getElem_toArray, List.getElem_cons_succ, List.getElem_cons_zero, List.setIfInBounds_toArray, List.set_cons_zero, List.set_cons_succ]
        refine wpAnyH_take (i := 14) (v := ?_) rfl (by kernel_rfl) (by kernel_rfl) (by kernel_rfl) (fun _ _ _ h => h) (Or.inl ⟨by rfl, ?_⟩) (by assumption) ?_
        rotate_left
        · (intro w hSw; (try dsimp only at hSw); go_simp; try with_reducible rfl)
        try simp only [Act.put, List.getElem_toArray, List.getElem_cons_succ, List.getElem_cons_zero, List.setIfInBounds_toArray, List.set_cons_zero, List.set_cons_succ]
        refine wpAnyH_take (i := 15) (v := ?_) rfl (by kernel_rfl) (by kernel_rfl) (by kernel_rfl) (fun _ _ _ h => h) (Or.inl ⟨by rfl, ?_⟩) (by assumption) ?_
        rotate_left
        · (intro w hSw; (try dsimp only at hSw); go_simp; try with_reducible rfl)
        try simp only [Act.put, List.getElem_toArray, List.getElem_cons_succ, List.getElem_cons_zero, List.setIfInBounds_toArray, List.set_cons_zero, List.set_cons_succ]
        refine wpAnyH_done (by kernel_rfl) ?_ _
        go_wp2_with fail
        go_meet
        exact ⟨w0.heap.size, CS', G', rfl, rfl, took_ahead (w1 := w0.drew) HE0.out hHeld _ hT2 hz hone hR hG⟩
    case rest =>
      obtain ⟨kb, CS', G', rfl, rfl, hk⟩ := hcut
      obtain ⟨hrow, hz, hone, hE2, hput, hT2, hGG⟩ := hk
      have HR1 := Lib.hid hrow
      have HR2 := Lib.hid hE2
      have HZ := Lib.hid hz
      have HONE := Lib.hid hone
      have HGG := Lib.hid hGG
      have HR4 := Lib.hid hput.2
      have hd := done_any hput.1 HLG.out ⟨0, (E.A.swap b i o n).2.1, 0⟩
      unfold resV at hd
      dsimp only at hd
      have HD := Lib.hid hd
      clear hd hput hE2 hz hone hrow hT2 hGG
      go_wp2_with (first
        | (refine wpList_load_row rfl 67 (.tmp 11) rfl kb rfl 67 CS' (0, 0) (.struct fs) HR1.out HFS.out rfl (by rw [HZ.out]; exact info_refA) ?_)
        | (refine wpList_store_mid rfl 67 (.tmp 36) (.tmp 34) rfl eb 0 CS' rfl rfl (by rw [HZ.out]; exact HR2.out.there) (by rw [HZ.out]; exact info_refA) HONE.out ?_)
        | (go_at_call 123; go_must (with_reducible refine HD.out.mono ?_); rintro e w4 ⟨rfl, lv4, hE4, hT4, hL4⟩; have hq5 := HR4.out.trans hT4 (fun k hk => .inl hk); have hne : w1.heap.size ≠ eb := Nat.ne_of_gt HLT1.out; obtain ⟨⟨c0, c1, c2⟩, f0, f1, f2⟩ := res_cells (hq5.keep HB1.out (by simpa using hne)); have HE4 := Lib.hid hE4; have HT4 := Lib.hid (HT0.out.trans hq5 (fun k hk => .inl hk)); have HSZ : Hid (w1.heap.size < w4.heap.size) := Lib.hid (by have := hq5.size; have := HZ0.out; omega); have HL4 : Hid (∀ q, lv4.ownBlock = some q → w1.heap.size < q) := Lib.hid (fun q hq => by have h5 := hL4 q hq; have h6 := HR4.out.size; have := HZ0.out; omega); clear hE4 hT4 hL4 hq5))
      have hpa := fun E4 (h4 : EnAt w4 eb E4 CS' lv4 G') (x y z : Value) => put_answer (x := x) (y := y) (z := z) HE1b.out HT1.out rfl HSZ.out h4 HT4.out (fun hk => by rcases HGG.out _ hk with h | h; have := HGL.out _ h; have := HT1.out.size; omega; have := HZ0.out; omega) HL4.out
      obtain ⟨e1, e2⟩ := hpa _ HE4.out (.int .u64 0) (.bool (E.A.swap b i o n).2.1) (.int .i64 0)
      refine bodyPost_ret (by simp [results, Tryz.results221]) rfl ⟨rfl, CS', lv4, G', e1.step ?_, e2.trans (G := []) ?_ (by simp), fun q hq => by rcases HGG.out q hq with h | h; exact .inl h; exact .inr (by have := HT1.out.size; have := HZ0.out; omega), fun q hq => .inr (by have := HL4.out q hq; have := HT1.out.size; omega)⟩
      · (repeat' first | exact Frm.Turn.refl _ _ | refine Frm.Turn.alloc ?_ _ | refine Frm.Turn.drew ?_ | refine Frm.Turn.drewN ?_ _ | (refine Frm.Turn.setCell ?_ (.inr (by simp)) _))
      · (repeat' first | exact Frm.Turn.refl _ _ | refine Frm.Turn.alloc ?_ _ | refine Frm.Turn.drew ?_ | refine Frm.Turn.drewN ?_ _ | (refine Frm.Turn.setCell ?_ (.inr (by simp)) _))
end Evn
end Go.Proofs.YtlghinjggkgfmaaGreat

set_option linter.unusedVariables false
set_option linter.unusedSimpArgs false
namespace Go.Proofs.YtlghinjggkgfmaaGreat
namespace Evn
open Go.RowKit Go.Maps Arn
variable {W W' : World} {eb : Nat} {E : En} {CS CS' : Array Value} {lv : Value} {G G' : List Nat}
set_option maxRecDepth 100000 in
set_option maxHeartbeats 4000000 in
/-- Begin: another arena, from the beginning. -/
theorem begin_any (h : EnAt W eb E CS lv G) (A2 : Ar) (hr : RefS W A2 (.agg CS') G') (hg : eb ∉ G') (hl : ∀ k, k ∈ G' → k < W.heap.size) :
    Calls Tryz.prog 31 #[.pointer (some ⟨eb, 0, none⟩), .agg CS'] W fun e w' => e = .returned (.tuple #[]) ∧ EnAt w' eb (E.begin A2) CS' lv G' ∧ Frm.Turn [eb] W w' := by
  obtain ⟨fs, hfs⟩ := struct_of under_refA
  have HFS := Lib.hid hfs
  obtain ⟨hz, hone⟩ : CS'.size = 20 ∧ CS'.all (·.oneCell') = true := by
    obtain ⟨C, e, h1, h2⟩ := hr.row
    cases e
    exact ⟨h1, h2⟩
  have h1 := h.step ((Frm.Turn.refl [] W).alloc (.cells CS' 67))
  have hT1 : Frm.Turn [] W (W.alloc (.cells CS' 67)) := (Frm.Turn.refl [] W).alloc _
  obtain ⟨h2, hT2⟩ := h1.putM hz hone (hr.turn hT1 (by simp)) hg (fun k hk => by have := hl k hk; rw [World.size_alloc]; omega)
  have HB := Lib.hid (World.alloc_heap_new W (.cells CS' 67))
  have f1 := h2.thaw 21
  have f2 := h2.thaw 22
  have f3 := h2.thaw 23
  obtain ⟨d0, d1, d2, d3⟩ := h2.cells
  have h5 := ((h2.setAt 0).setDid false).setStop false
  have hT5 : Frm.Turn [eb] W (((((W.alloc (.cells CS' 67)).setCells eb 0 CS'.toList).setCell ⟨eb, 21, none⟩ (.int .i64 ((0 : Nat) : Int))).setCell ⟨eb, 22, none⟩ (.bool false)).setCell ⟨eb, 23, none⟩ (.bool false)) :=
    ((((hT1.mono (by simp)).trans hT2 (fun k hk => .inl hk)).setCell (p := ⟨eb, 21, none⟩) (.inl (by simp)) _).setCell (p := ⟨eb, 22, none⟩) (.inl (by simp)) _).setCell (p := ⟨eb, 23, none⟩) (.inl (by simp)) _
  have HE1 := Lib.hid h1
  have HE5 := Lib.hid h5
  have HT5 := Lib.hid hT5
  have HZ := Lib.hid hz
  have HONE := Lib.hid hone
  clear h h1 hT1 h2 hT2 h5 hT5 hr hg hl
  go_enter Tryz.func31, Tryz.ntmps31
  go_wp2_with (first
    | (refine wpList_load_row rfl 67 (.tmp 3) rfl W.heap.size rfl 67 CS' (0, 0) (.struct fs) HB.out HFS.out rfl (by rw [HZ.out]; exact info_refA) ?_)
    | (refine wpList_store_mid rfl 67 (.tmp 7) (.tmp 5) rfl eb 0 CS' rfl rfl (by rw [HZ.out]; exact HE1.out.there) (by rw [HZ.out]; exact info_refA) HONE.out ?_))
  refine bodyPost_end (v := .tuple #[]) (by simp [results, Tryz.results31]) rfl ⟨rfl, HE5.out, HT5.out⟩
end Evn
end Go.Proofs.YtlghinjggkgfmaaGreat

set_option linter.unusedVariables false
set_option linter.unusedSimpArgs false
namespace Go.Proofs.YtlghinjggkgfmaaGreat
namespace Evn
open Go.RowKit Go.Maps Arn

/-- Behind i accesses, the last one that of the stop. -/
def plcE (A A' : Ar) (L : List Res) (r : Res) (i : Nat) : En := if i ≤ L.length + 1 then posE A A' L r i else endE A' L r
theorem plc_begin (E : En) (A A' : Ar) (r : Res) : E.begin A = plcE A A' E.log r 0 := by
  unfold plcE
  rw [if_pos (by omega), begin_pos E A A' r]
theorem plc_acc {A A' : Ar} {L : List Res} {r : Res} {i : Nat} (f : Ar → Ar × Res) (hi : i ≤ L.length + 1) (hf : i = L.length → f A = (A', r)) : (plcE A A' L r i).acc f = (plcE A A' L r (i + 1), ansE L r i) := by
  unfold plcE
  rw [if_pos hi]
  by_cases h : i ≤ L.length
  · rw [if_pos (by omega)]
    exact acc_at f h hf
  · obtain rfl : i = L.length + 1 := by omega
    rw [if_neg (by omega), acc_end]
    simp [ansE]
/-- What is asked of an arena. -/
structure LimA (A : Ar) : Prop where
  ok : A.Ok
  faults : A.faults ≤ 100000000
  births : A.births ≤ 100000000
  reads : A.t.reads ≤ 100000000
  swaps : A.t.swaps ≤ 100000000
  lays : A.t.lays ≤ 100000000
  frees : A.t.frees ≤ 100000000
theorem plc_facts (A A' : Ar) (L : List Res) (r : Res) (i : Nat) (hL : L.length ≤ 50000) (h : LimA A) (h' : LimA A') : (plcE A A' L r i).log.length ≤ 100000 ∧ (plcE A A' L r i).at_ ≤ 100000 ∧ LimA (plcE A A' L r i).A := by
  unfold plcE posE endE
  split
  · split
    · exact ⟨by dsimp only; omega, by dsimp only; omega, h⟩
    · exact ⟨by simp; omega, by dsimp only; omega, h'⟩
  · exact ⟨by simp; omega, by dsimp only; omega, h'⟩
theorem plc_stop {A A' : Ar} {L : List Res} {r : Res} {i : Nat} : (plcE A A' L r i).stop = decide (L.length + 2 ≤ i) := by
  unfold plcE posE endE
  split
  · rw [decide_eq_false (by omega)]
    split <;> rfl
  · rw [decide_eq_true (by omega)]
variable {W : World} {eb : Nat} {CS : Array Value} {lv : Value} {G : List Nat} {A A' : Ar} {L : List Res} {r : Res} {i : Nat}
theorem read_pos (h : EnAt W eb (plcE A A' L r i) CS lv G) (hL : L.length ≤ 50000) (lA : LimA A) (lA' : LimA A') (hi : i ≤ L.length + 1) (b x : Int) (hf : i = L.length → aRead b x A = (A', r)) :
    Calls Tryz.prog 84 #[.pointer (some ⟨eb, 0, none⟩), .agg #[.int .u64 b, .int .i64 x]] W (AccPost W eb (plcE A A' L r (i + 1)) lv G (.int .u64 (ansE L r i).w)) := by
  obtain ⟨h1, h2, h3⟩ := plc_facts A A' L r i hL lA lA'
  have := read_any h h1 h2 h3.ok h3.faults h3.reads b x
  rw [plc_acc _ hi hf] at this
  exact this
theorem swap_pos (h : EnAt W eb (plcE A A' L r i) CS lv G) (hL : L.length ≤ 50000) (lA : LimA A) (lA' : LimA A') (hi : i ≤ L.length + 1) (b x o n : Int) (hf : i = L.length → aSwap b x o n A = (A', r)) :
    Calls Tryz.prog 221 #[.pointer (some ⟨eb, 0, none⟩), .agg #[.int .u64 b, .int .i64 x], .int .u64 o, .int .u64 n] W (AccPost W eb (plcE A A' L r (i + 1)) lv G (.bool (ansE L r i).ok)) := by
  obtain ⟨h1, h2, h3⟩ := plc_facts A A' L r i hL lA lA'
  have := swap_any h h1 h2 h3.ok h3.faults h3.swaps b x o n
  rw [plc_acc _ hi hf] at this
  exact this
theorem free_pos (h : EnAt W eb (plcE A A' L r i) CS lv G) (hL : L.length ≤ 50000) (lA : LimA A) (lA' : LimA A') (hi : i ≤ L.length + 1) (k : Int) (hf : i = L.length → aFree k A = (A', r)) :
    Calls Tryz.prog 86 #[.pointer (some ⟨eb, 0, none⟩), .int .u64 k] W (AccPost W eb (plcE A A' L r (i + 1)) lv G (.tuple #[])) := by
  obtain ⟨h1, h2, h3⟩ := plc_facts A A' L r i hL lA lA'
  have := free_any h h1 h2 h3.ok h3.faults h3.frees k
  rw [plc_acc _ hi hf] at this
  exact this
end Evn
end Go.Proofs.YtlghinjggkgfmaaGreat
