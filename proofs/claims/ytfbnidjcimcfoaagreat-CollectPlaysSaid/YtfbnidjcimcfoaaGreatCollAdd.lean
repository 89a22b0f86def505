/- The document's environment: Add. -/
/- The document's count in an environment: Part and Run of layer 12, walked. -/
import Derived.Test.YtfbnidjcimcfoaaGreatEnvTook
import Derived.Test.YtfbnidjcimcfoaaGreatCollRun
import Derived.Test.YtfbnidjcimcfoaaGreatCountFirst
set_option linter.unusedVariables false
set_option linter.unusedSimpArgs false
namespace Go.Proofs.YtfbnidjcimcfoaaGreat
namespace Evn
open Go.RowKit Go.Maps Arn
variable {W W' : World} {eb : Nat} {E : En} {CS CS' : Array Value} {lv : Value} {G G' : List Nat}
set_option maxRecDepth 100000 in
set_option maxHeartbeats 4000000 in
theorem addE_any (h : EnAt W eb E CS lv G) (hl : E.log.length ≤ 100000) (ha : E.at_ ≤ 100000) (hok : E.A.Ok) (hf : E.A.faults ≤ 100000000) (hr : E.A.t.adds ≤ 100000000) (b i d : Int) :
    Calls Tryz.prog 81 #[.pointer (some ⟨eb, 0, none⟩), .agg #[.int .u64 b, .int .i64 i], .int .u64 d] W (AccPost W eb (E.acc (aAdd b i d)).1 lv G (.int .u64 (E.acc (aAdd b i d)).2.w)) := by
  have HO := fun o => old_any (h.step ((Frm.Turn.refl [] W).alloc o)) hl ha
  have hlt := h.lt
  have HGL := Lib.hid h.gl
  have HGE := Lib.hid h.ge
  have hbx := World.alloc_heap_new W (.cells #[.int .u64 b, .int .i64 i] 66)
  have HBX0 := Lib.hid hbx
  clear hbx
  obtain ⟨fs, hfs⟩ := struct_of under_refA
  have HFS := Lib.hid hfs
  by_cases hB : E.oldB = true
  · have hdef : E.acc (aAdd b i d) = (E.oldE, E.oldR) := by unfold En.acc; rw [if_pos hB]
    rw [hdef]
    rw [hB] at HO
    have HO := Lib.hid HO
    clear h hB hdef
    go_enter Tryz.func81, Tryz.ntmps81
    go_wp2_with (first
      | (go_at_call 94; go_must (with_reducible refine (HO.out _).mono ?_); rintro e w1 ⟨rfl, hE1, hT1⟩; have HE1 := Lib.hid hE1; have HT1 := Lib.hid (((Frm.Turn.refl [eb] W).alloc _).trans hT1 (fun k hk => .inl hk)); unfold resV; clear hE1 hT1))
    refine bodyPost_ret (by simp [results, Tryz.results81]) rfl ⟨rfl, CS, lv, G, HE1.out.step ?_, ?_, fun k hk => .inl hk, fun k hk => .inl hk⟩
    · (repeat' first | exact Frm.Turn.refl _ _ | refine Frm.Turn.alloc ?_ _ | refine Frm.Turn.drew ?_ | refine Frm.Turn.drewN ?_ _ | (refine Frm.Turn.setCell ?_ (.inr (by simp)) _))
    · refine HT1.out.trans (G := []) ?_ (by simp)
      (repeat' first | exact Frm.Turn.refl _ _ | refine Frm.Turn.alloc ?_ _ | refine Frm.Turn.drew ?_ | refine Frm.Turn.drewN ?_ _ | (refine Frm.Turn.setCell ?_ (.inr (by simp)) _))
  · have hB : E.oldB = false := by simpa using hB
    have hdef : E.acc (aAdd b i d) = ({ E.oldE with A := (E.A.add b i d).1, log := E.oldE.log ++ [⟨(E.A.add b i d).2.1, false, 0⟩] }, ⟨(E.A.add b i d).2.1, false, 0⟩) := by unfold En.acc; rw [if_neg (by rw [hB]; simp), (oldE_same E).2]; rfl
    rw [hdef]
    rw [hB, oldR_of hB] at HO
    have HO := Lib.hid HO
    have HEA := Lib.hid (oldE_same E).1
    have HLG : Hid (E.oldE.log.length ≤ 100000) := Lib.hid (by rw [(oldE_same E).2]; exact hl)
    have HOK := Lib.hid hok
    clear h hB hdef
    go_enter Tryz.func81, Tryz.ntmps81
    go_upto_region 3 with (first
      | (go_at_call 94; go_must (with_reducible refine (HO.out _).mono ?_); rintro e w1 ⟨rfl, hE1, hT1⟩; have hb1 := World.alloc_heap_new w1 (.cells #[.int .u64 0, .bool false, .int .i64 0] 167); have HB1 := Lib.hid hb1; have HE1 := Lib.hid (hE1.step ((Frm.Turn.refl [] w1).alloc (.cells #[.int .u64 0, .bool false, .int .i64 0] 167))); have HE1b := Lib.hid hE1; have HLT1 := Lib.hid hE1.lt; have HT1 := Lib.hid (((Frm.Turn.refl [eb] W).alloc _).trans hT1 (fun k hk => .inl hk)); have HRF := Lib.hid (fun W' (hT : Frm.Turn [] (w1.alloc (.cells #[.int .u64 0, .bool false, .int .i64 0] 167)) W') => by (have hm := ((hE1.step ((Frm.Turn.refl [] w1).alloc (.cells #[.int .u64 0, .bool false, .int .i64 0] 167))).step hT).m; rw [HEA.out] at hm; exact refAdd_any E.A (.agg CS) G W' hm HOK.out hf hr b i d (fun k hk => by have := hE1.gl k hk; have := hT.size; simp at this; omega))); have hbq := hT1.keep HBX0.out (by simp; omega); have HBX : Hid (∀ W', Frm.Turn [] (w1.alloc (.cells #[.int .u64 0, .bool false, .int .i64 0] 167)) W' → W'.cell? ⟨W.heap.size, 0, none⟩ = some (.int .u64 b) ∧ W'.cell? ⟨W.heap.size, 1, none⟩ = some (.int .i64 i)) := Lib.hid (fun W' hT => by (have hr := hT.keep (((Frm.Turn.refl [] w1).alloc _).keep hbq (by simp)) (by simp); exact ⟨(Frm.cell_row _ _ 0 _ _ _ hr).trans rfl, (Frm.cell_row _ _ 1 _ _ _ hr).trans rfl⟩)); unfold resV Res.zero; clear hE1 hT1 hb1 hbq))
    generalize hw0 : w1.alloc (.cells #[.int .u64 0, .bool false, .int .i64 0] 167) = w0 at HE1 HRF HBX HB1 ⊢
    have HZ0 : Hid (w0.heap.size = w1.heap.size + 1) := Lib.hid (by rw [← hw0, World.size_alloc])
    have HT0 : Hid (Frm.Turn [eb] W w0) := Lib.hid (by rw [← hw0]; exact HT1.out.alloc _)
    have HE0 := HE1
    clear hw0
    go_cut [9, 10] (fun sa sv W2 => ∃ kb CS' G', sa = .pointer (some ⟨kb, 0, none⟩) ∧ sv = .int .u64 (E.A.add b i d).2.1 ∧ Took w0 eb E.oldE CS lv G ((E.A.add b i d).1) kb CS' G' W2)
    case first =>
      refine wp_region_held_drew (S := fun W' => Frm.Turn [] w0 W') (by kernel_rfl) ?_ (fun hHeld => ?_)
      · exact (Frm.Turn.refl [] w0).drew
      refine wpAnyH_take (i := 0) (v := ?_) rfl (by kernel_rfl) (by kernel_rfl) (by kernel_rfl) (fun _ _ _ h => h) (Or.inl ⟨by rfl, ?_⟩) (by assumption) ?_
      rotate_left
      · (intro w hSw; (try dsimp only at hSw); go_simp; try with_reducible rfl)
      try simp only [Act.put, List.getElem_toArray, List.getElem_cons_succ, List.getElem_cons_zero, List.setIfInBounds_toArray, List.set_cons_zero, List.set_cons_succ]
      refine wpAnyH_take (i := 1) (v := ?_) rfl (by kernel_rfl) (by kernel_rfl) (by kernel_rfl) (fun _ _ _ h => h) (Or.inl ⟨by rfl, ?_⟩) (by assumption) ?_
      rotate_left
      · (intro w hSw; (try dsimp only at hSw); go_simp; try with_reducible rfl)
      try simp only [Act.put, List.getElem_toArray, List.getElem_cons_succ, List.getElem_cons_zero, List.setIfInBounds_toArray, List.set_cons_zero, List.set_cons_succ]
      refine wpAnyH_take (i := 2) (v := ?_) rfl (by kernel_rfl) (by kernel_rfl) (by kernel_rfl) (fun _ _ _ h => h) (Or.inl ⟨by rfl, ?_⟩) (by assumption) ?_
      rotate_left
      · (intro w hSw; (try dsimp only at hSw); go_simp; try with_reducible rfl)
      try simp only [Act.put, List.getElem_toArray, List.getElem_cons_succ, List.getElem_cons_zero, List.setIfInBounds_toArray, List.set_cons_zero, List.set_cons_succ]
      refine' wpAnyH_take (i := 3) (v := _) rfl (by kernel_rfl) (by kernel_rfl) (by kernel_rfl) (fun _ _ _ h => h) (yieldsIf_load_mid (by rfl) 37 (.tmp 22) rfl eb 0 rfl CS.toList (.struct fs) (fun w hw => (HE0.out.step hw).range) HFS.out rfl (by rw [Array.length_toList, HE0.out.size]; exact info_refA)) (by assumption) ?_
      try simp only [Act.put, List.getElem_toArray, List.getElem_cons_succ, List.getElem_cons_zero, List.setIfInBounds_toArray, List.set_cons_zero, List.set_cons_succ]
      rw [Array.toArray_toList]
      refine wpAnyH_take (i := 4) (v := ?_) rfl (by kernel_rfl) (by kernel_rfl) (by kernel_rfl) (fun _ _ _ h => h) (Or.inl ⟨by rfl, ?_⟩) (by assumption) ?_
      rotate_left
      · (intro w hSw; (try dsimp only at hSw); obtain ⟨x0, x1⟩ := HBX.out w hSw; go_simp; try with_reducible rfl)
      try simp only [Act.put, List.getElem_toArray, List.getElem_cons_succ, List.getElem_cons_zero, List.setIfInBounds_toArray, List.set_cons_zero, List.set_cons_succ]
      refine wpAnyH_take (i := 5) (v := ?_) rfl (by kernel_rfl) (by kernel_rfl) (by kernel_rfl) (fun _ _ _ h => h) (Or.inl ⟨by rfl, ?_⟩) (by assumption) ?_
      rotate_left
      · (intro w hSw; (try dsimp only at hSw); go_simp; try with_reducible rfl)
      try simp only [Act.put, List.getElem_toArray, List.getElem_cons_succ, List.getElem_cons_zero, List.setIfInBounds_toArray, List.set_cons_zero, List.set_cons_succ]
      refine wpAnyH_ready (rs := [6, 11]) (by kernel_rfl) (by simp) ?_
      refine AllReadyH.cons rfl (fun K hK => ?_) (AllReadyH.cons rfl (fun K hK => ?_) AllReadyH.nil)
      · try simp only [List.getElem_toArray, List.getElem_cons_succ, List.getElem_cons_zero]
        go_simp
        (go_at_call 104; (with_reducible refine (HRF.out _ hHeld).mono ?_); rintro e w2 ⟨u', G', rfl, hR, hT2, hG⟩; obtain ⟨CS', rfl, hz, hone⟩ := hR.row)
        try go_wp2_with fail
        refine hK.out _ _ (hHeld.trans hT2 (by simp)) (fun hHeld2 => ?_)
        clear hK K
        try simp only [Act.put, List.getElem_toArray, List.getElem_cons_succ, List.getElem_cons_zero, List.setIfInBounds_toArray, List.set_cons_zero, List.set_cons_succ]
        refine wpAnyH_take (i := 7) (v := ?_) rfl (by kernel_rfl) (by kernel_rfl) (by kernel_rfl) (fun _ _ _ h => h) (Or.inl ⟨by rfl, ?_⟩) (by assumption) ?_
        rotate_left
        · (intro w hSw; (try dsimp only at hSw); go_simp; try with_reducible rfl)
        try simp only [Act.put, List.getElem_toArray, List.getElem_cons_succ, List.getElem_cons_zero, List.setIfInBounds_toArray, List.set_cons_zero, List.set_cons_succ]
        refine wpAnyH_take (i := 8) (v := ?_) rfl (by kernel_rfl) (by kernel_rfl) (by kernel_rfl) (fun _ _ _ h => h) (Or.inl ⟨by rfl, ?_⟩) (by assumption) ?_
        rotate_left
        · (intro w hSw; (try dsimp only at hSw); go_simp; try with_reducible rfl)
        try simp only [Act.put, List.getElem_toArray, List.getElem_cons_succ, List.getElem_cons_zero, List.setIfInBounds_toArray, List.set_cons_zero, List.set_cons_succ]
        refine wpAnyH_take (i := 9) (v := ?_) rfl (by kernel_rfl) (by kernel_rfl) (by kernel_rfl) (fun _ _ _ h => h) (Or.inl ⟨by rfl, ?_⟩) (by assumption) ?_
        rotate_left
        · (intro w hSw; (try dsimp only at hSw); go_simp; try with_reducible rfl)
        try simp only [Act.put, List.getElem_toArray, List.getElem_cons_succ, List.getElem_cons_zero, List.setIfInBounds_toArray, List.set_cons_zero, List.set_cons_succ]
        refine wpAnyH_take (i := 10) (v := ?_) rfl (by kernel_rfl) (by kernel_rfl) (by kernel_rfl) (fun _ _ _ h => h) (Or.inl ⟨by rfl, ?_⟩) (by assumption) ?_
        rotate_left
        · (intro w hSw; (try dsimp only at hSw); go_simp; try with_reducible rfl)
        try simp only [Act.put, List.getElem_toArray, List.getElem_cons_succ, List.getElem_cons_zero, List.setIfInBounds_toArray, List.set_cons_zero, List.set_cons_succ]
        refine wpAnyH_ready (rs := [11]) (by kernel_rfl) (by simp) ?_
        refine AllReadyH.cons rfl (fun K hK => ?_) AllReadyH.nil
        try simp only [List.getElem_toArray, List.getElem_cons_succ, List.getElem_cons_zero]
        go_simp
        refine hK.out _ _ (hHeld2.alloc _) (fun hHeld1 => ?_)
        clear hK K
        try simp only [Act.put, List.getElem_toArray, List.getElem_cons_succ, List.getElem_cons_zero, List.setIfInBounds_toArray, List.set_cons_zero, List.set_cons_succ]
        refine wpAnyH_ready (rs := [12]) (by kernel_rfl) (by simp) ?_
        refine AllReadyH.cons rfl (fun K hK => ?_) AllReadyH.nil
        try simp only [List.getElem_toArray, List.getElem_cons_succ, List.getElem_cons_zero]
        rw [if_pos (by rfl)]
        refine wp_store_row 37 (.tmp 9) (.tmp 27) rfl w2.heap.size CS' rfl rfl 37 _ (World.alloc_heap_new w2 _) (by rw [hz]; exact info_refA) (by rw [hz]; rfl) hone ?_
        refine hK.out _ _ (setRow_turn (hHeld2.alloc _) (.inr (by first | exact Nat.le_refl _ | exact Nat.le_trans hHeld.size hT2.size)) _) (fun hHeld3 => ?_)
        clear hK K
        try simp only [Act.put, List.getElem_toArray, List.getElem_cons_succ, List.getElem_cons_zero, List.setIfInBounds_toArray, List.set_cons_zero, List.set_cons_succ]
        refine wpAnyH_take (i := 13) (v := ?_) rfl (by kernel_rfl) (by kernel_rfl) (by kernel_rfl) (fun _ _ _ h => h) (Or.inl ⟨by rfl, ?_⟩) (by assumption) ?_
        rotate_left
        · (intro w hSw; (try dsimp only at hSw); go_simp; try with_reducible rfl)
        try simp only [Act.put, List.getElem_toArray, List.getElem_cons_succ, List.getElem_cons_zero, List.setIfInBounds_toArray, List.set_cons_zero, List.set_cons_succ]
        refine wpAnyH_take (i := 14) (v := ?_) rfl (by kernel_rfl) (by kernel_rfl) (by kernel_rfl) (fun _ _ _ h => h) (Or.inl ⟨by rfl, ?_⟩) (by assumption) ?_
        rotate_left
        · (intro w hSw; (try dsimp only at hSw); go_simp; try with_reducible rfl)
        try simp only [Act.put, List.getElem_toArray, List.getElem_cons_succ, List.getElem_cons_zero, List.setIfInBounds_toArray, List.set_cons_zero, List.set_cons_succ]
        refine wpAnyH_done (by kernel_rfl) ?_ _
        go_wp2_with fail
        go_meet
        exact ⟨w2.heap.size, CS', G', rfl, rfl, took_behind HE0.out hHeld hT2 hz hone hR hG _⟩
      · try simp only [List.getElem_toArray, List.getElem_cons_succ, List.getElem_cons_zero]
        go_simp
        refine hK.out _ _ (hHeld.alloc _) (fun hHeld1 => ?_)
        clear hK K
        try simp only [Act.put, List.getElem_toArray, List.getElem_cons_succ, List.getElem_cons_zero, List.setIfInBounds_toArray, List.set_cons_zero, List.set_cons_succ]
        refine wpAnyH_ready (rs := [6]) (by kernel_rfl) (by simp) ?_
        refine AllReadyH.cons rfl (fun K hK => ?_) AllReadyH.nil
        try simp only [List.getElem_toArray, List.getElem_cons_succ, List.getElem_cons_zero]
        go_simp
        (go_at_call 104; (with_reducible refine (HRF.out _ hHeld1).mono ?_); rintro e w2 ⟨u', G', rfl, hR, hT2, hG⟩; obtain ⟨CS', rfl, hz, hone⟩ := hR.row)
        try go_wp2_with fail
        refine hK.out _ _ (hHeld1.trans hT2 (by simp)) (fun hHeld2 => ?_)
        clear hK K
        try simp only [Act.put, List.getElem_toArray, List.getElem_cons_succ, List.getElem_cons_zero, List.setIfInBounds_toArray, List.set_cons_zero, List.set_cons_succ]
        refine wpAnyH_take (i := 7) (v := ?_) rfl (by kernel_rfl) (by kernel_rfl) (by kernel_rfl) (fun _ _ _ h => h) (Or.inl ⟨by rfl, ?_⟩) (by assumption) ?_
        rotate_left
        · (intro w hSw; (try dsimp only at hSw); go_simp; try with_reducible rfl)
        try simp only [Act.put, List.getElem_toArray, List.getElem_cons_succ, List.getElem_cons_zero, List.setIfInBounds_toArray, List.set_cons_zero, List.set_cons_succ]
        refine wpAnyH_take (i := 8) (v := ?_) rfl (by kernel_rfl) (by kernel_rfl) (by kernel_rfl) (fun _ _ _ h => h) (Or.inl ⟨by rfl, ?_⟩) (by assumption) ?_
        rotate_left
        · (intro w hSw; (try dsimp only at hSw); go_simp; try with_reducible rfl)
        try simp only [Act.put, List.getElem_toArray, List.getElem_cons_succ, List.getElem_cons_zero, List.setIfInBounds_toArray, List.set_cons_zero, List.set_cons_succ]
        refine wpAnyH_take (i := 9) (v := ?_) rfl (by kernel_rfl) (by kernel_rfl) (by kernel_rfl) (fun _ _ _ h => h) (Or.inl ⟨by rfl, ?_⟩) (by assumption) ?_
        rotate_left
        · (intro w hSw; (try dsimp only at hSw); go_simp; try with_reducible rfl)
        try simp only [Act.put, List.getElem_toArray, List.getElem_cons_succ, List.getElem_cons_zero, List.setIfInBounds_toArray, List.set_cons_zero, List.set_cons_succ]
        refine wpAnyH_take (i := 10) (v := ?_) rfl (by kernel_rfl) (by kernel_rfl) (by kernel_rfl) (fun _ _ _ h => h) (Or.inl ⟨by rfl, ?_⟩) (by assumption) ?_
        rotate_left
        · (intro w hSw; (try dsimp only at hSw); go_simp; try with_reducible rfl)
        try simp only [Act.put, List.getElem_toArray, List.getElem_cons_succ, List.getElem_cons_zero, List.setIfInBounds_toArray, List.set_cons_zero, List.set_cons_succ]
        refine wpAnyH_ready (rs := [12]) (by kernel_rfl) (by simp) ?_
        refine AllReadyH.cons rfl (fun K hK => ?_) AllReadyH.nil
        try simp only [List.getElem_toArray, List.getElem_cons_succ, List.getElem_cons_zero]
        rw [if_pos (by rfl)]
        refine wp_store_row 37 (.tmp 9) (.tmp 27) rfl w0.heap.size CS' rfl rfl 37 _ (hT2.keep (World.alloc_heap_new w0.drew _) (by simp)) (by rw [hz]; exact info_refA) (by rw [hz]; rfl) hone ?_
        refine hK.out _ _ (setRow_turn hHeld2 (.inr (by first | exact Nat.le_refl _ | exact Nat.le_trans hHeld.size hT2.size)) _) (fun hHeld3 => ?_)
        clear hK K
        try simp only [Act.put, List.getElem_toArray, List.getElem_cons_succ, List.getElem_cons_zero, List.setIfInBounds_toArray, List.set_cons_zero, List.set_cons_succ]
        refine wpAnyH_take (i := 13) (v := ?_) rfl (by kernel_rfl) (by kernel_rfl) (by kernel_rfl) (fun _ _ _ h => h) (Or.inl ⟨by rfl, ?_⟩) (by assumption) ?_
        rotate_left
        · (intro w hSw; (try dsimp only at hSw); go_simp; try with_reducible rfl)
        try simp only [Act.put, List.getElem_toArray, List.getElem_cons_succ, List.getElem_cons_zero, List.setIfInBounds_toArray, List.set_cons_zero, List.set_cons_succ]
        refine wpAnyH_take (i := 14) (v := ?_) rfl (by kernel_rfl) (by kernel_rfl) (by kernel_rfl) (fun _ _ _ h => h) (Or.inl ⟨by rfl, ?_⟩) (by assumption) ?_
        rotate_left
        · (intro w hSw; (try dsimp only at hSw); go_simp; try with_reducible rfl)
        try simp only [Act.put, List.getElem_toArray, List.getElem_cons_succ, List.getElem_cons_zero, List.setIfInBounds_toArray, List.set_cons_zero, List.set_cons_succ]
        refine wpAnyH_done (by kernel_rfl) ?_ _
        go_wp2_with fail
        go_meet
        exact ⟨w0.heap.size, CS', G', rfl, rfl, took_ahead (w1 := w0.drew) HE0.out hHeld _ hT2 hz hone hR hG⟩
    case rest =>
      obtain ⟨kb, CS', G', rfl, rfl, hk⟩ := hcut
      obtain ⟨hrow, hz, hone, hE2, hput, hT2, hGG⟩ := hk
      have HR1 := Lib.hid hrow
      have HR2 := Lib.hid hE2
      have HZ := Lib.hid hz
      have HONE := Lib.hid hone
      have HGG := Lib.hid hGG
      have HR4 := Lib.hid hput.2
      have hd := done_any hput.1 HLG.out ⟨(E.A.add b i d).2.1, false, 0⟩
      unfold resV at hd
      dsimp only at hd
      have HD := Lib.hid hd
      clear hd hput hE2 hz hone hrow hT2 hGG
      go_wp2_with (first
        | (refine wpList_load_row rfl 37 (.tmp 9) rfl kb rfl 37 CS' (0, 0) (.struct fs) HR1.out HFS.out rfl (by rw [HZ.out]; exact info_refA) ?_)
        | (refine wpList_store_mid rfl 37 (.tmp 33) (.tmp 31) rfl eb 0 CS' rfl rfl (by rw [HZ.out]; exact HR2.out.there) (by rw [HZ.out]; exact info_refA) HONE.out ?_)
        | (go_at_call 96; go_must (with_reducible refine HD.out.mono ?_); rintro e w4 ⟨rfl, lv4, hE4, hT4, hL4⟩; have hq5 := HR4.out.trans hT4 (fun k hk => .inl hk); have hne : w1.heap.size ≠ eb := Nat.ne_of_gt HLT1.out; obtain ⟨⟨c0, c1, c2⟩, f0, f1, f2⟩ := res_cells (hq5.keep HB1.out (by simpa using hne)); have HE4 := Lib.hid hE4; have HT4 := Lib.hid (HT0.out.trans hq5 (fun k hk => .inl hk)); have HSZ : Hid (w1.heap.size < w4.heap.size) := Lib.hid (by have := hq5.size; have := HZ0.out; omega); have HL4 : Hid (∀ q, lv4.ownBlock = some q → w1.heap.size < q) := Lib.hid (fun q hq => by have h5 := hL4 q hq; have h6 := HR4.out.size; have := HZ0.out; omega); clear hE4 hT4 hL4 hq5))
      have hpa := fun E4 (h4 : EnAt w4 eb E4 CS' lv4 G') (x y z : Value) => put_answer (x := x) (y := y) (z := z) HE1b.out HT1.out rfl HSZ.out h4 HT4.out (fun hk => by rcases HGG.out _ hk with h | h; have := HGL.out _ h; have := HT1.out.size; omega; have := HZ0.out; omega) HL4.out
      obtain ⟨e1, e2⟩ := hpa _ HE4.out (.int .u64 (E.A.add b i d).2.1) (.bool false) (.int .i64 0)
      refine bodyPost_ret (by simp [results, Tryz.results81]) rfl ⟨rfl, CS', lv4, G', e1.step ?_, e2.trans (G := []) ?_ (by simp), fun q hq => by rcases HGG.out q hq with h | h; exact .inl h; exact .inr (by have := HT1.out.size; have := HZ0.out; omega), fun q hq => .inr (by have := HL4.out q hq; have := HT1.out.size; omega)⟩
      · (repeat' first | exact Frm.Turn.refl _ _ | refine Frm.Turn.alloc ?_ _ | refine Frm.Turn.drew ?_ | refine Frm.Turn.drewN ?_ _ | (refine Frm.Turn.setCell ?_ (.inr (by simp)) _))
      · (repeat' first | exact Frm.Turn.refl _ _ | refine Frm.Turn.alloc ?_ _ | refine Frm.Turn.drew ?_ | refine Frm.Turn.drewN ?_ _ | (refine Frm.Turn.setCell ?_ (.inr (by simp)) _))
end Evn
end Go.Proofs.YtfbnidjcimcfoaaGreat

set_option linter.unusedVariables false
set_option linter.unusedSimpArgs false
namespace Go.Proofs.YtfbnidjcimcfoaaGreat
namespace Evn
open Go.RowKit Go.Maps Arn
variable {W : World} {eb : Nat} {CS : Array Value} {lv : Value} {G : List Nat} {A A' : Ar} {L : List Res} {r : Res} {i : Nat}
theorem plc_adds (L : List Res) (r : Res) (i : Nat) (h : A.t.adds ≤ 100000000) (h' : A'.t.adds ≤ 100000000) : (plcE A A' L r i).A.t.adds ≤ 100000000 := by
  unfold plcE posE endE
  split
  · split
    · exact h
    · exact h'
  · exact h'
theorem add_pos (h : EnAt W eb (plcE A A' L r i) CS lv G) (hL : L.length ≤ 50000) (lA : LimA A) (lA' : LimA A') (dA : A.t.adds ≤ 100000000) (dA' : A'.t.adds ≤ 100000000) (hi : i ≤ L.length + 1) (b x d : Int) (hf : i = L.length → aAdd b x d A = (A', r)) :
    Calls Tryz.prog 81 #[.pointer (some ⟨eb, 0, none⟩), .agg #[.int .u64 b, .int .i64 x], .int .u64 d] W (AccPost W eb (plcE A A' L r (i + 1)) lv G (.int .u64 (ansE L r i).w)) := by
  obtain ⟨h1, h2, h3⟩ := plc_facts A A' L r i hL lA lA'
  have := addE_any h h1 h2 h3.ok h3.faults (plc_adds L r i dA dA') b x d
  rw [plc_acc _ hi hf] at this
  exact this
end Evn
namespace Col
open Go.RowKit Go.Maps Arn Pac Clm Cnt Evn
variable {W0 W W' : World} {lv0 : Value} {G0 : List Nat} {eb : Nat} {Bs : List Nat} {P P' : En} {CS : Array Value} {lv : Value} {G : List Nat} {A A' : Ar} {L : List Res} {r : Res}
/-- What a run of the document's count goes by. -/
structure GoesC (A A' : Ar) (seg : Int) (s : Nat) (d : Int) (L : List Res) (r : Res) : Prop where
  le : L.length ≤ kN s
  at_ : L.length < kN s → aAdd seg (adN s L.length : Nat) d A = (A', r)
  adds : A.t.adds ≤ 100000000
  adds' : A'.t.adds ≤ 100000000
theorem ct_add {s y : Nat} {seg d : Int} (R : GoesC A A' seg s d L r) (lA : LimA A) (lA' : LimA A') (hs : s < 15) (h : EnvB W0 lv0 G0 eb Bs (plcE A A' L r y) W) (hy : y ≤ L.length + 1) (hk : y < kN s) (x : Int) (hx : x = ((adN s y : Nat) : Int)) :
    Calls Tryz.prog 81 #[.pointer (some ⟨eb, 0, none⟩), .agg #[.int .u64 seg, .int .i64 x], .int .u64 d] W fun e w' => e = .returned (.int .u64 (ansE L r y).w) ∧ EnvB W0 lv0 G0 eb Bs (plcE A A' L r (y + 1)) w' ∧ Frm.Turn [eb] W w' := by
  have h8 : kN s ≤ 8 := by unfold kN; have := (sg_facts (show s < 255 by omega)).1; omega
  refine (EnvB.go h (Q := fun e => e = .returned (.int .u64 (ansE L r y).w)) (R := fun P' _ => P' = plcE A A' L r (y + 1)) (fun CS lv G he => ?_)).mono ?_
  · refine (add_pos he (by have := R.le; omega) lA lA' R.adds R.adds' hy seg x d fun e => ?_).mono ?_
    · subst e; rw [hx]; exact R.at_ hk
    · rintro e w' ⟨rfl, CS', lv', G', e1, e2, e3, e4⟩
      exact ⟨rfl, _, CS', lv', G', rfl, e1, e2, e3, e4⟩
  · rintro e w' ⟨rfl, P', rfl, h1, h2⟩
    exact ⟨rfl, h1, h2⟩
set_option maxRecDepth 100000 in
set_option maxHeartbeats 16000000 in
theorem RPart_any (s : Nat) (W : World) (hs : s < 15) : Calls Tryz.prog 80 #[.int .i64 s, .int .i64 0, .int .i64 9] W fun e w' => e = .returned (.tuple #[.int .i64 0, .int .i64 (kN s)]) ∧ Frm.Turn [] W w' := by
  have HP := Lib.hid (fun W => RPath_any s W (by omega))
  have hk8 : sgN s + 1 ≤ 8 := by have := (sg_facts (show s < 255 by omega)).1; omega
  have b0 : (0 : Int) ≤ (s : Int) := by omega
  have b1 : (s : Int) ≤ 14 := by omega
  obtain ⟨n, HN⟩ : ∃ n : Nat, Hid (n = sgN s + 1) := ⟨_, Lib.hid rfl⟩
  have n0 : (1 : Int) ≤ (n : Int) := by rw [HN.out]; omega
  have n1 : (n : Int) ≤ 8 := by rw [HN.out]; omega
  have m0 : ¬ (s : Int) < 0 := by omega
  have m1 : ¬ (254 : Int) < (s : Int) := by omega
  have m2 : ¬ (n : Int) < 0 := by omega
  have m3 : (n : Int) < 9 := by omega
  go_enter Tryz.func80, Tryz.ntmps80
  go_wp2_with (go_at_call 83; (with_reducible refine (HP.out _).mono ?_); rintro e w2 ⟨v, rfl, g, c, rfl, hrow, hT⟩; rw [← HN.out]; have HT := Lib.hid hT; clear hrow hT)
  go_ret2
  refine ⟨?_, HT.out⟩
  rw [HN.out]; rfl
set_option maxRecDepth 100000 in
set_option maxHeartbeats 16000000 in
theorem rcount_any {s : Nat} {seg d : Int} (R : GoesC A A' seg s d L r) (lA : LimA A) (lA' : LimA A') (hs : s < 15) {CS : Array Value} (hE : EnAt W eb (plcE A A' L r 0) CS lv G) :
    Calls Tryz.prog 43 #[.pointer (some ⟨eb, 0, none⟩), .agg #[.int .u64 seg, .int .i64 s], .int .i64 0, .int .i64 9, .int .u64 d] W fun e w' => (∃ x y, e = .returned (.tuple #[x, y])) ∧ EnvB W lv G eb [] (plcE A A' L r (min (kN s) (L.length + 2))) w' ∧ Frm.Turn [eb] W w' := by
  have HP := Lib.hid (fun W => RPath_any s W (by omega))
  have HA := Lib.hid (fun W => RPart_any s W hs)
  have HS := Lib.hid (fun W => RSegment_any s W (by omega))
  have hk8 : kN s ≤ 4 := by
    have : ∀ x : Fin 15, kN x.val ≤ 4 := by decide
    exact this ⟨s, hs⟩
  have hk0 : kN s = sgN s + 1 := rfl
  have T0 := (Frm.Turn.refl [] W).alloc (.cells #[.int .u64 seg, .int .i64 s] 46)
  have b0 := World.alloc_heap_new W (.cells #[.int .u64 seg, .int .i64 s] 46)
  have HB0 := Lib.hid ((envB_start hE).add T0 (x := W.heap.size) (Nat.le_refl _) (by simp))
  have HLT := Lib.hid hE.lt
  have hgE : W.heap.size ∉ [eb] := by have := HLT.out; simp; omega
  have q0 : (0 : Int) ≤ (s : Int) := by omega
  have q1 : (s : Int) ≤ 14 := by omega
  obtain ⟨n, HN⟩ : ∃ n : Nat, Hid (n = kN s) := ⟨_, Lib.hid rfl⟩
  obtain ⟨gg, HGG⟩ : ∃ gg : Nat, Hid (gg = sgN s) := ⟨_, Lib.hid rfl⟩
  have HK8 := Lib.hid hk8
  have HK0 := Lib.hid hk0
  have HRR := Lib.hid R
  have HBX := Lib.hid b0
  have HT0 := Lib.hid T0
  clear T0 b0 hE hk8 hk0 R
  go_enter Tryz.func43, Tryz.ntmps43
  have c0 := fun W2 (hT : Frm.Turn [eb] (W.alloc (.cells #[.int .u64 seg, .int .i64 s] 46)) W2) => (show W2.cell? ⟨W.heap.size, 0, none⟩ = some (.int .u64 seg) ∧ W2.cell? ⟨W.heap.size, 1, none⟩ = some (.int .i64 s) from ⟨(Frm.cell_row _ _ 0 _ _ _ (hT.keep HBX.out hgE)).trans rfl, (Frm.cell_row _ _ 1 _ _ _ (hT.keep HBX.out hgE)).trans rfl⟩)
  have HC0 := Lib.hid c0
  clear c0
  obtain ⟨p0, p1⟩ := HC0.out _ (Frm.Turn.refl _ _)
  go_wp2_with (go_at_call 80; (with_reducible refine (HA.out _).mono ?_); rintro e w2 ⟨rfl, hT⟩; rw [← HN.out]; have HT1 : Hid (Frm.Turn [eb] (W.alloc (.cells #[.int .u64 seg, .int .i64 s] 46)) w2) := Lib.hid (hT.mono (by simp)); have HE1 := Lib.hid (HB0.out.step hT); clear hT)
  clear p0 p1
  generalize (W.alloc (.cells #[.int .u64 seg, .int .i64 s] 46)) = W1 at HC0 HT1
  go_loopw [2] (fun i wr => ∃ y : Nat, y ≤ n ∧ y ≤ L.length + 1 ∧ i = .int .i64 y ∧ EnvB W lv G eb [W.heap.size] (plcE A A' L r y) wr ∧ Frm.Turn [eb] W1 wr) (fun i _ => n - (intOf i).toNat)
  case atStart => exact ⟨0, Nat.zero_le _, Nat.zero_le _, rfl, HE1.out, HT1.out⟩
  case round =>
    obtain ⟨y, hy, hyl, rfl, hE, hT⟩ := hrel
    clear HE1 HT1
    have b2 : (0 : Int) ≤ (y : Int) := by omega
    have b3 : (y : Int) ≤ 8 := by have := HK8.out; have := HN.out; omega
    by_cases hlt : y < n
    · have h1 : (y : Int) < (n : Int) := by omega
      have HLY := Lib.hid (And.intro hlt hyl)
      obtain ⟨p0, p1⟩ := HC0.out _ hT
      have HT := Lib.hid hT
      have HE := Lib.hid hE
      clear hE hT hlt hy hyl
      go_upto_region 4 with (go_at_call 74; (with_reducible refine (HS.out _).mono ?_); rintro e w3 ⟨rfl, rfl⟩; rw [← HGG.out])
      clear p0 p1
      have HCC : Hid (∀ W2, Frm.Turn [eb] wr W2 → W2.cell? ⟨W.heap.size, 0, none⟩ = some (.int .u64 seg) ∧ W2.cell? ⟨W.heap.size, 1, none⟩ = some (.int .i64 s)) := Lib.hid (fun W2 h => HC0.out W2 (HT.out.trans h (fun k hk => .inl hk)))
      obtain ⟨ad, HAD⟩ : ∃ ad : Int, Hid (ad = ((adN s y : Nat) : Int)) := ⟨_, Lib.hid rfl⟩
      obtain ⟨nd, HND⟩ : ∃ nd : Nat, Hid (nd = ndN s y) := ⟨_, Lib.hid rfl⟩
      have HCT : Hid (∀ W, Calls Tryz.prog 82 #[.int .u64 seg, .int .i64 gg, .int .i64 nd] W fun e w' => e = .returned (.agg #[.int .u64 seg, .int .i64 ad]) ∧ Frm.Turn [] W w') := Lib.hid (fun W => by
        have hn := (nd_facts (show s < 255 by omega) (show y < kN s by have := HLY.out.1; have := HN.out; omega)).2
        have hs8 := (sg_facts (show s < 255 by omega)).1
        have hp := Nat.pow_le_pow_right (show 0 < 2 by omega) (show sgN s ≤ 7 by omega)
        rw [HGG.out, HND.out, HAD.out]
        exact RCounter_any seg (sgN s) (ndN s y) W (by omega) (by omega))
      have HAC := Lib.hid (fun (W2 : World) (h : EnvB W lv G eb [W.heap.size] (plcE A A' L r y) W2) => ct_add HRR.out lA lA' hs h HLY.out.2 (by have := HLY.out.1; have := HN.out; omega) ad HAD.out)
      refine wp_region_held_drew (S := fun W' => Frm.Turn [eb] wr W') (by kernel_rfl) ?_ (fun hHeld => ?_)
      · exact (Frm.Turn.refl [eb] wr).drew
      have hX : Frm.Turn [] wr wr.drew := (Frm.Turn.refl [] wr).drew
      generalize wr.drew = wd at hHeld hX ⊢
      refine wpAnyH_take (i := 0) (v := ?_) rfl (by kernel_rfl) (by kernel_rfl) (by kernel_rfl) (fun _ _ _ h => h) (Or.inl ⟨by rfl, ?_⟩) (by assumption) ?_
      rotate_left
      · (intro w hSw; (try dsimp only at hSw); go_simp; try with_reducible rfl)
      try simp only [Act.put, List.getElem_toArray, List.getElem_cons_succ, List.getElem_cons_zero, List.setIfInBounds_toArray, List.set_cons_zero, List.set_cons_succ]
      refine wpAnyH_take (i := 1) (v := ?_) rfl (by kernel_rfl) (by kernel_rfl) (by kernel_rfl) (fun _ _ _ h => h) (Or.inl ⟨by rfl, ?_⟩) (by assumption) ?_
      rotate_left
      · (intro w hSw; (try dsimp only at hSw); go_simp; try with_reducible rfl)
      try simp only [Act.put, List.getElem_toArray, List.getElem_cons_succ, List.getElem_cons_zero, List.setIfInBounds_toArray, List.set_cons_zero, List.set_cons_succ]
      refine wpAnyH_take (i := 2) (v := ?_) rfl (by kernel_rfl) (by kernel_rfl) (by kernel_rfl) (fun _ _ _ h => h) (Or.inl ⟨by rfl, ?_⟩) (by assumption) ?_
      rotate_left
      · (intro w hSw; (try dsimp only at hSw); obtain ⟨p0, p1⟩ := HCC.out w hSw; go_simp; try with_reducible rfl)
      try simp only [Act.put, List.getElem_toArray, List.getElem_cons_succ, List.getElem_cons_zero, List.setIfInBounds_toArray, List.set_cons_zero, List.set_cons_succ]
      refine wpAnyH_take (i := 3) (v := ?_) rfl (by kernel_rfl) (by kernel_rfl) (by kernel_rfl) (fun _ _ _ h => h) (Or.inl ⟨by rfl, ?_⟩) (by assumption) ?_
      rotate_left
      · (intro w hSw; (try dsimp only at hSw); go_simp; try with_reducible rfl)
      try simp only [Act.put, List.getElem_toArray, List.getElem_cons_succ, List.getElem_cons_zero, List.setIfInBounds_toArray, List.set_cons_zero, List.set_cons_succ]
      refine wpAnyH_take (i := 4) (v := ?_) rfl (by kernel_rfl) (by kernel_rfl) (by kernel_rfl) (fun _ _ _ h => h) (Or.inl ⟨by rfl, ?_⟩) (by assumption) ?_
      rotate_left
      · (intro w hSw; (try dsimp only at hSw); go_simp; try with_reducible rfl)
      try simp only [Act.put, List.getElem_toArray, List.getElem_cons_succ, List.getElem_cons_zero, List.setIfInBounds_toArray, List.set_cons_zero, List.set_cons_succ]
      refine wpAnyH_take (i := 5) (v := ?_) rfl (by kernel_rfl) (by kernel_rfl) (by kernel_rfl) (fun _ _ _ h => h) (Or.inl ⟨by rfl, ?_⟩) (by assumption) ?_
      rotate_left
      · (intro w hSw; (try dsimp only at hSw); obtain ⟨p0, p1⟩ := HCC.out w hSw; go_simp; try with_reducible rfl)
      try simp only [Act.put, List.getElem_toArray, List.getElem_cons_succ, List.getElem_cons_zero, List.setIfInBounds_toArray, List.set_cons_zero, List.set_cons_succ]
      refine wpAnyH_take (i := 7) (v := ?_) rfl (by kernel_rfl) (by kernel_rfl) (by kernel_rfl) (fun _ _ _ h => h) (Or.inl ⟨by rfl, ?_⟩) (by assumption) ?_
      rotate_left
      · (intro w hSw; (try dsimp only at hSw); go_simp; try with_reducible rfl)
      try simp only [Act.put, List.getElem_toArray, List.getElem_cons_succ, List.getElem_cons_zero, List.setIfInBounds_toArray, List.set_cons_zero, List.set_cons_succ]
      refine wpAnyH_take (i := 11) (v := ?_) rfl (by kernel_rfl) (by kernel_rfl) (by kernel_rfl) (fun _ _ _ h => h) (Or.inl ⟨by rfl, ?_⟩) (by assumption) ?_
      rotate_left
      · (intro w hSw; (try dsimp only at hSw); go_simp; try with_reducible rfl)
      try simp only [Act.put, List.getElem_toArray, List.getElem_cons_succ, List.getElem_cons_zero, List.setIfInBounds_toArray, List.set_cons_zero, List.set_cons_succ]
      refine wpAnyH_ready (rs := [6]) (by kernel_rfl) (by simp) ?_
      refine AllReadyH.cons rfl (fun K hK => ?_) AllReadyH.nil
      try simp only [List.getElem_toArray, List.getElem_cons_succ, List.getElem_cons_zero]
      go_simp
      (go_at_call 83; (with_reducible refine (HP.out _).mono ?_); rintro e w3 ⟨v, rfl, q, c, rfl, hrow, hT3⟩)
      try go_wp2_with fail
      have hc3 : w3.cell? ⟨q, y, none⟩ = some (.int .i64 nd) := by
        rw [hrow.cellAt y (by have := HLY.out.1; have := HN.out; have := HK0.out; omega), HND.out]
        simp only [List.getElem?_map]
        rw [List.getElem?_range (by have := HLY.out.1; have := HN.out; have := HK0.out; omega)]
        rfl
      have hX3 := hX.trans hT3 (by simp)
      have hn1 : sgN s + 1 = n := by rw [HN.out]; exact HK0.out.symm
      rw [hn1]
      clear hrow hX
      refine hK.out _ _ (hX3.mono (by simp)) (fun hHeld3 => ?_)
      clear hK K
      try simp only [Act.put, List.getElem_toArray, List.getElem_cons_succ, List.getElem_cons_zero, List.setIfInBounds_toArray, List.set_cons_zero, List.set_cons_succ]
      refine wpAnyH_take (i := 8) (v := ?_) rfl (by kernel_rfl) (by kernel_rfl) (by kernel_rfl) (fun _ _ _ h => h) (Or.inl ⟨by rfl, ?_⟩) (by assumption) ?_
      rotate_left
      · (intro w hSw; (try dsimp only at hSw); go_simp; try with_reducible rfl)
      try simp only [Act.put, List.getElem_toArray, List.getElem_cons_succ, List.getElem_cons_zero, List.setIfInBounds_toArray, List.set_cons_zero, List.set_cons_succ]
      refine wpAnyH_ready (rs := [9]) (by kernel_rfl) (by simp) ?_
      refine AllReadyH.cons rfl (fun K hK => ?_) AllReadyH.nil
      try simp only [List.getElem_toArray, List.getElem_cons_succ, List.getElem_cons_zero]
      go_simp
      refine hK.out _ _ (hX3.mono (by simp)) (fun hHeld4 => ?_)
      clear hK K
      try simp only [Act.put, List.getElem_toArray, List.getElem_cons_succ, List.getElem_cons_zero, List.setIfInBounds_toArray, List.set_cons_zero, List.set_cons_succ]
      refine wpAnyH_ready (rs := [10]) (by kernel_rfl) (by simp) ?_
      refine AllReadyH.cons rfl (fun K hK => ?_) AllReadyH.nil
      try simp only [List.getElem_toArray, List.getElem_cons_succ, List.getElem_cons_zero]
      go_simp
      (go_at_call 82; (with_reducible refine (HCT.out _).mono ?_); rintro e w4 ⟨rfl, hT4⟩)
      try go_wp2_with fail
      have hX4 := hX3.trans hT4 (by simp)
      refine hK.out _ _ (hX4.mono (by simp)) (fun hHeld5 => ?_)
      clear hK K
      try simp only [Act.put, List.getElem_toArray, List.getElem_cons_succ, List.getElem_cons_zero, List.setIfInBounds_toArray, List.set_cons_zero, List.set_cons_succ]
      refine wpAnyH_ready (rs := [12]) (by kernel_rfl) (by simp) ?_
      refine AllReadyH.cons rfl (fun K hK => ?_) AllReadyH.nil
      try simp only [List.getElem_toArray, List.getElem_cons_succ, List.getElem_cons_zero]
      go_simp
      (go_at_call 81; (with_reducible refine (HAC.out _ (HE.out.step hX4)).mono ?_); rintro e w5 ⟨rfl, hE5, hT5⟩)
      try go_wp2_with fail
      have hX5 : Frm.Turn [eb] wr w5 := (hX4.mono (by simp)).trans hT5 (fun k hk => .inl hk)
      refine hK.out _ _ (hX5) (fun hHeld6 => ?_)
      clear hK K
      try simp only [Act.put, List.getElem_toArray, List.getElem_cons_succ, List.getElem_cons_zero, List.setIfInBounds_toArray, List.set_cons_zero, List.set_cons_succ]
      refine wpAnyH_done (by kernel_rfl) ?_ _
      clear hHeld hHeld3 hHeld4 hHeld5 hHeld6 hT4 hT5 hX3 hX4 hc3 hn1
      have HE5 := Lib.hid hE5
      have HT5 := Lib.hid hX5
      clear hE5 hX5
      have s5 := HE5.out.stop
      rw [plc_stop] at s5
      by_cases hst : L.length + 2 ≤ y + 1
      · rw [decide_eq_true hst] at s5
        have HST := Lib.hid hst
        clear hst
        go_wp2_with fail
        go_ret2
        have hm : min (kN s) (L.length + 2) = y + 1 := by have := HLY.out; have := HST.out; have := HN.out; omega
        rw [hm]
        exact ⟨⟨_, _, rfl⟩, HE5.out.drop, HE5.out.turn⟩
      · rw [decide_eq_false hst] at s5
        have HST := Lib.hid hst
        clear hst
        go_wp2_with fail
        refine ⟨⟨y + 1, HLY.out.1, by have := HST.out; omega, by simp, HE5.out, HT.out.trans HT5.out (fun k hk => .inl hk)⟩, ?_⟩
        have := HLY.out.1
        simp [intOf]; omega
    · obtain rfl : y = n := by omega
      have h1 : ¬ (y : Int) < (y : Int) := by omega
      have HE := Lib.hid hE
      clear hE hT hlt hy
      have HYL := Lib.hid hyl
      clear hyl
      go_wp2_with fail
      go_ret2
      have hm : min (kN s) (L.length + 2) = y := by have := HN.out; have := HYL.out; omega
      rw [hm]
      exact ⟨⟨_, _, rfl⟩, HE.out.drop, HE.out.turn⟩
end Col
end Go.Proofs.YtfbnidjcimcfoaaGreat
