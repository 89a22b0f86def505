/- The document's environment: Write. -/
import Derived.Test.YtlghinjggkgfmaaGreatEnvTook
set_option linter.unusedVariables false
set_option linter.unusedSimpArgs false
namespace Go.Proofs.YtlghinjggkgfmaaGreat
namespace Evn
open Go.RowKit Go.Maps Arn
variable {W W' : World} {eb : Nat} {E : En} {CS CS' : Array Value} {lv : Value} {G G' : List Nat}
set_option maxRecDepth 100000 in
set_option maxHeartbeats 4000000 in
theorem writeE_any (h : EnAt W eb E CS lv G) (hl : E.log.length ≤ 100000) (ha : E.at_ ≤ 100000) (hok : E.A.Ok) (hf : E.A.faults ≤ 100000000) (hr : E.A.t.writes ≤ 100000000) (b i x : Int) :
    Calls Tryz.prog 105 #[.pointer (some ⟨eb, 0, none⟩), .agg #[.int .u64 b, .int .i64 i], .int .u64 x] W (AccPost W eb (E.acc (aWrite b i x)).1 lv G (.tuple #[])) := by
  have HO := fun o => old_any (h.step ((Frm.Turn.refl [] W).alloc o)) hl ha
  have hlt := h.lt
  have HGL := Lib.hid h.gl
  have HGE := Lib.hid h.ge
  have hbx := World.alloc_heap_new W (.cells #[.int .u64 b, .int .i64 i] 80)
  have HBX0 := Lib.hid hbx
  clear hbx
  obtain ⟨fs, hfs⟩ := struct_of under_refA
  have HFS := Lib.hid hfs
  by_cases hB : E.oldB = true
  · have hdef : E.acc (aWrite b i x) = (E.oldE, E.oldR) := by unfold En.acc; rw [if_pos hB]
    rw [hdef]
    rw [hB] at HO
    have HO := Lib.hid HO
    clear h hB hdef
    go_enter Tryz.func105, Tryz.ntmps105
    go_wp2_with (first
      | (go_at_call 121; go_must (with_reducible refine (HO.out _).mono ?_); rintro e w1 ⟨rfl, hE1, hT1⟩; have HE1 := Lib.hid hE1; have HT1 := Lib.hid (((Frm.Turn.refl [eb] W).alloc _).trans hT1 (fun k hk => .inl hk)); unfold resV; clear hE1 hT1))
    refine bodyPost_ret (by simp [results, Tryz.results105]) rfl ⟨rfl, CS, lv, G, HE1.out.step ?_, ?_, fun k hk => .inl hk, fun k hk => .inl hk⟩
    · (repeat' first | exact Frm.Turn.refl _ _ | refine Frm.Turn.alloc ?_ _ | refine Frm.Turn.drew ?_ | refine Frm.Turn.drewN ?_ _ | (refine Frm.Turn.setCell ?_ (.inr (by simp)) _))
    · refine HT1.out.trans (G := []) ?_ (by simp)
      (repeat' first | exact Frm.Turn.refl _ _ | refine Frm.Turn.alloc ?_ _ | refine Frm.Turn.drew ?_ | refine Frm.Turn.drewN ?_ _ | (refine Frm.Turn.setCell ?_ (.inr (by simp)) _))
  · have hB : E.oldB = false := by simpa using hB
    have hdef : E.acc (aWrite b i x) = ({ E.oldE with A := (E.A.write b i x).1, log := E.oldE.log ++ [Res.zero] }, Res.zero) := by unfold En.acc; rw [if_neg (by rw [hB]; simp), (oldE_same E).2]; rfl
    rw [hdef]
    rw [hB, oldR_of hB] at HO
    have HO := Lib.hid HO
    have HEA := Lib.hid (oldE_same E).1
    have HLG : Hid (E.oldE.log.length ≤ 100000) := Lib.hid (by rw [(oldE_same E).2]; exact hl)
    have HOK := Lib.hid hok
    clear h hB hdef
    go_enter Tryz.func105, Tryz.ntmps105
    go_upto_region 3 with (first
      | (go_at_call 121; go_must (with_reducible refine (HO.out _).mono ?_); rintro e w1 ⟨rfl, hE1, hT1⟩; have hb1 := World.alloc_heap_new w1 (.cells #[.int .u64 0, .bool false, .int .i64 0] 213); have HB1 := Lib.hid hb1; have HE1 := Lib.hid (hE1.step ((Frm.Turn.refl [] w1).alloc (.cells #[.int .u64 0, .bool false, .int .i64 0] 213))); have HE1b := Lib.hid hE1; have HLT1 := Lib.hid hE1.lt; have HT1 := Lib.hid (((Frm.Turn.refl [eb] W).alloc _).trans hT1 (fun k hk => .inl hk)); have HRF := Lib.hid (fun W' (hT : Frm.Turn [] (w1.alloc (.cells #[.int .u64 0, .bool false, .int .i64 0] 213)) W') => by (have hm := ((hE1.step ((Frm.Turn.refl [] w1).alloc (.cells #[.int .u64 0, .bool false, .int .i64 0] 213))).step hT).m; rw [HEA.out] at hm; exact refWrite_any E.A (.agg CS) G W' hm HOK.out hf hr b i x (fun k hk => by have := hE1.gl k hk; have := hT.size; simp at this; omega))); have hbq := hT1.keep HBX0.out (by simp; omega); have HBX : Hid (∀ W', Frm.Turn [] (w1.alloc (.cells #[.int .u64 0, .bool false, .int .i64 0] 213)) W' → W'.cell? ⟨W.heap.size, 0, none⟩ = some (.int .u64 b) ∧ W'.cell? ⟨W.heap.size, 1, none⟩ = some (.int .i64 i)) := Lib.hid (fun W' hT => by (have hr := hT.keep (((Frm.Turn.refl [] w1).alloc _).keep hbq (by simp)) (by simp); exact ⟨(Frm.cell_row _ _ 0 _ _ _ hr).trans rfl, (Frm.cell_row _ _ 1 _ _ _ hr).trans rfl⟩)); unfold resV Res.zero; clear hE1 hT1 hb1 hbq))
    generalize hw0 : w1.alloc (.cells #[.int .u64 0, .bool false, .int .i64 0] 213) = w0 at HE1 HRF HBX HB1 ⊢
    have HZ0 : Hid (w0.heap.size = w1.heap.size + 1) := Lib.hid (by rw [← hw0, World.size_alloc])
    have HT0 : Hid (Frm.Turn [eb] W w0) := Lib.hid (by rw [← hw0]; exact HT1.out.alloc _)
    have HE0 := HE1
    clear hw0
    go_cut [8, 9] (fun sa sv W2 => ∃ kb CS' G', sa = .pointer (some ⟨kb, 0, none⟩) ∧ sv = .int .i64 (E.A.write b i x).2 ∧ Took w0 eb E.oldE CS lv G ((E.A.write b i x).1) kb CS' G' W2)
    case first =>
      refine wp_region_held_drew (S := fun W' => Frm.Turn [] w0 W') (by kernel_rfl) ?_ (fun hHeld => ?_)
      · exact (Frm.Turn.refl [] w0).drew
      refine wpAnyH_take (i := 0) (v := ?_) rfl (by kernel_rfl) (by kernel_rfl) (by kernel_rfl) (fun _ _ _ h => h) (Or.inl ⟨by rfl, ?_⟩) (by assumption) ?_
      rotate_left
      · (intro w hSw; (try dsimp only at hSw); go_simp; try with_reducible rfl)
      try simp only [Act.put, List.getElem_toArray, List.getElem_cons_succ, List.getElem_cons_zero, List.setIfInBounds_toArray, List.set_cons_zero, List.set_cons_succ]
      refine wpAnyH_take (i := 1) (v := ?_) rfl (by kernel_rfl) (by kernel_rfl) (by kernel_rfl) (fun _ _ _ h => h) (Or.inl ⟨by rfl, ?_⟩) (by assumption) ?_
      rotate_left
      · (intro w hSw; (try dsimp only at hSw); go_simp; try with_reducible rfl)
      try simp only [Act.put, List.getElem_toArray, List.getElem_cons_succ, List.getElem_cons_zero, List.setIfInBounds_toArray, List.set_cons_zero, List.set_cons_succ]
      refine wpAnyH_take (i := 2) (v := ?_) rfl (by kernel_rfl) (by kernel_rfl) (by kernel_rfl) (fun _ _ _ h => h) (Or.inl ⟨by rfl, ?_⟩) (by assumption) ?_
      rotate_left
      · (intro w hSw; (try dsimp only at hSw); go_simp; try with_reducible rfl)
      try simp only [Act.put, List.getElem_toArray, List.getElem_cons_succ, List.getElem_cons_zero, List.setIfInBounds_toArray, List.set_cons_zero, List.set_cons_succ]
      refine' wpAnyH_take (i := 3) (v := _) rfl (by kernel_rfl) (by kernel_rfl) (by kernel_rfl) (fun _ _ _ h => h) (yieldsIf_load_mid (by rfl) 67 (.tmp 20) rfl eb 0 rfl CS.toList (.struct fs) (fun w hw => (HE0.out.step hw).range) HFS.out rfl (by rw [Array.length_toList, HE0.out.size]; exact info_refA)) (by assumption) ?_
      try simp only [Act.put, List.getElem_toArray, List.getElem_cons_succ, List.getElem_cons_zero, List.setIfInBounds_toArray, List.set_cons_zero, List.set_cons_succ]
      rw [Array.toArray_toList]
      refine wpAnyH_take (i := 4) (v := ?_) rfl (by kernel_rfl) (by kernel_rfl) (by kernel_rfl) (fun _ _ _ h => h) (Or.inl ⟨by rfl, ?_⟩) (by assumption) ?_
      rotate_left
      · (intro w hSw; (try dsimp only at hSw); obtain ⟨x0, x1⟩ := HBX.out w hSw; go_simp; try with_reducible rfl)
      try simp only [Act.put, List.getElem_toArray, List.getElem_cons_succ, List.getElem_cons_zero, List.setIfInBounds_toArray, List.set_cons_zero, List.set_cons_succ]
      refine wpAnyH_take (i := 5) (v := ?_) rfl (by kernel_rfl) (by kernel_rfl) (by kernel_rfl) (fun _ _ _ h => h) (Or.inl ⟨by rfl, ?_⟩) (by assumption) ?_
      rotate_left
      · (intro w hSw; (try dsimp only at hSw); go_simp; try with_reducible rfl)
      try simp only [Act.put, List.getElem_toArray, List.getElem_cons_succ, List.getElem_cons_zero, List.setIfInBounds_toArray, List.set_cons_zero, List.set_cons_succ]
      refine wpAnyH_ready (rs := [6, 10]) (by kernel_rfl) (by simp) ?_
      refine AllReadyH.cons rfl (fun K hK => ?_) (AllReadyH.cons rfl (fun K hK => ?_) AllReadyH.nil)
      · try simp only [List.getElem_toArray, List.getElem_cons_succ, List.getElem_cons_zero]
        go_simp
        (go_at_call 29; (with_reducible refine (HRF.out _ hHeld).mono ?_); rintro e w2 ⟨u', G', rfl, hR, hT2, hG⟩; obtain ⟨CS', rfl, hz, hone⟩ := hR.row)
        try go_wp2_with fail
        refine hK.out _ _ (hHeld.trans hT2 (by simp)) (fun hHeld2 => ?_)
        clear hK K
        try simp only [Act.put, List.getElem_toArray, List.getElem_cons_succ, List.getElem_cons_zero, List.setIfInBounds_toArray, List.set_cons_zero, List.set_cons_succ]
        refine wpAnyH_take (i := 7) (v := ?_) rfl (by kernel_rfl) (by kernel_rfl) (by kernel_rfl) (fun _ _ _ h => h) (Or.inl ⟨by rfl, ?_⟩) (by assumption) ?_
        rotate_left
        · (intro w hSw; (try dsimp only at hSw); go_simp; try with_reducible rfl)
        try simp only [Act.put, List.getElem_toArray, List.getElem_cons_succ, List.getElem_cons_zero, List.setIfInBounds_toArray, List.set_cons_zero, List.set_cons_succ]
        refine wpAnyH_take (i := 8) (v := ?_) rfl (by kernel_rfl) (by kernel_rfl) (by kernel_rfl) (fun _ _ _ h => h) (Or.inl ⟨by rfl, ?_⟩) (by assumption) ?_
        rotate_left
        · (intro w hSw; (try dsimp only at hSw); go_simp; try with_reducible rfl)
        try simp only [Act.put, List.getElem_toArray, List.getElem_cons_succ, List.getElem_cons_zero, List.setIfInBounds_toArray, List.set_cons_zero, List.set_cons_succ]
        refine wpAnyH_take (i := 9) (v := ?_) rfl (by kernel_rfl) (by kernel_rfl) (by kernel_rfl) (fun _ _ _ h => h) (Or.inl ⟨by rfl, ?_⟩) (by assumption) ?_
        rotate_left
        · (intro w hSw; (try dsimp only at hSw); go_simp; try with_reducible rfl)
        try simp only [Act.put, List.getElem_toArray, List.getElem_cons_succ, List.getElem_cons_zero, List.setIfInBounds_toArray, List.set_cons_zero, List.set_cons_succ]
        refine wpAnyH_ready (rs := [10]) (by kernel_rfl) (by simp) ?_
        refine AllReadyH.cons rfl (fun K hK => ?_) AllReadyH.nil
        try simp only [List.getElem_toArray, List.getElem_cons_succ, List.getElem_cons_zero]
        go_simp
        refine hK.out _ _ (hHeld2.alloc _) (fun hHeld1 => ?_)
        clear hK K
        try simp only [Act.put, List.getElem_toArray, List.getElem_cons_succ, List.getElem_cons_zero, List.setIfInBounds_toArray, List.set_cons_zero, List.set_cons_succ]
        refine wpAnyH_ready (rs := [11]) (by kernel_rfl) (by simp) ?_
        refine AllReadyH.cons rfl (fun K hK => ?_) AllReadyH.nil
        try simp only [List.getElem_toArray, List.getElem_cons_succ, List.getElem_cons_zero]
        rw [if_pos (by rfl)]
        refine wp_store_row 67 (.tmp 8) (.tmp 25) rfl w2.heap.size CS' rfl rfl 67 _ (World.alloc_heap_new w2 _) (by rw [hz]; exact info_refA) (by rw [hz]; rfl) hone ?_
        refine hK.out _ _ (setRow_turn (hHeld2.alloc _) (.inr (by first | exact Nat.le_refl _ | exact Nat.le_trans hHeld.size hT2.size)) _) (fun hHeld3 => ?_)
        clear hK K
        try simp only [Act.put, List.getElem_toArray, List.getElem_cons_succ, List.getElem_cons_zero, List.setIfInBounds_toArray, List.set_cons_zero, List.set_cons_succ]
        refine wpAnyH_take (i := 12) (v := ?_) rfl (by kernel_rfl) (by kernel_rfl) (by kernel_rfl) (fun _ _ _ h => h) (Or.inl ⟨by rfl, ?_⟩) (by assumption) ?_
        rotate_left
        · (intro w hSw; (try dsimp only at hSw); go_simp; try with_reducible rfl)
        try simp only [Act.put, List.getElem_toArray, List.getElem_cons_succ, List.getElem_cons_zero, List.setIfInBounds_toArray, List.set_cons_zero, List.set_cons_succ]
        refine wpAnyH_done (by kernel_rfl) ?_ _
        go_wp2_with fail
        go_meet
        exact ⟨w2.heap.size, CS', G', rfl, rfl, took_behind HE0.out hHeld hT2 hz hone hR hG _⟩
      · try simp only [List.getElem_toArray, List.getElem_cons_succ, List.getElem_cons_zero]
        go_simp
        refine hK.out _ _ (hHeld.alloc _) (fun hHeld1 => ?_)
        clear hK K
        try simp only [Act.put, List.getElem_toArray, List.getElem_cons_succ, List.getElem_cons_zero, List.setIfInBounds_toArray, List.set_cons_zero, List.set_cons_succ]
        refine wpAnyH_ready (rs := [6]) (by kernel_rfl) (by simp) ?_
        refine AllReadyH.cons rfl (fun K hK => ?_) AllReadyH.nil
        try simp only [List.getElem_toArray, List.getElem_cons_succ, List.getElem_cons_zero]
        go_simp
        (go_at_call 29; (with_reducible refine (HRF.out _ hHeld1).mono ?_); rintro e w2 ⟨u', G', rfl, hR, hT2, hG⟩; obtain ⟨CS', rfl, hz, hone⟩ := hR.row)
        try go_wp2_with fail
        refine hK.out _ _ (hHeld1.trans hT2 (by simp)) (fun hHeld2 => ?_)
        clear hK K
        try simp only [Act.put, List.getElem_toArray, List.getElem_cons_succ, List.getElem_cons_zero, List.setIfInBounds_toArray, List.set_cons_zero, List.set_cons_succ]
        refine wpAnyH_take (i := 7) (v := ?_) rfl (by kernel_rfl) (by kernel_rfl) (by kernel_rfl) (fun _ _ _ h => h) (Or.inl ⟨by rfl, ?_⟩) (by assumption) ?_
        rotate_left
        · (intro w hSw; (try dsimp only at hSw); go_simp; try with_reducible rfl)
        try simp only [Act.put, List.getElem_toArray, List.getElem_cons_succ, List.getElem_cons_zero, List.setIfInBounds_toArray, List.set_cons_zero, List.set_cons_succ]
        refine wpAnyH_take (i := 8) (v := ?_) rfl (by kernel_rfl) (by kernel_rfl) (by kernel_rfl) (fun _ _ _ h => h) (Or.inl ⟨by rfl, ?_⟩) (by assumption) ?_
        rotate_left
        · (intro w hSw; (try dsimp only at hSw); go_simp; try with_reducible rfl)
        try simp only [Act.put, List.getElem_toArray, List.getElem_cons_succ, List.getElem_cons_zero, List.setIfInBounds_toArray, List.set_cons_zero, List.set_cons_succ]
        refine wpAnyH_take (i := 9) (v := ?_) rfl (by kernel_rfl) (by kernel_rfl) (by kernel_rfl) (fun _ _ _ h => h) (Or.inl ⟨by rfl, ?_⟩) (by assumption) ?_
        rotate_left
        · (intro w hSw; (try dsimp only at hSw); go_simp; try with_reducible rfl)
        try simp only [Act.put, List.getElem_toArray, List.getElem_cons_succ, List.getElem_cons_zero, List.setIfInBounds_toArray, List.set_cons_zero, List.set_cons_succ]
        refine wpAnyH_ready (rs := [11]) (by kernel_rfl) (by simp) ?_
        refine AllReadyH.cons rfl (fun K hK => ?_) AllReadyH.nil
        try simp only [List.getElem_toArray, List.getElem_cons_succ, List.getElem_cons_zero]
        rw [if_pos (by rfl)]
        refine wp_store_row 67 (.tmp 8) (.tmp 25) rfl w0.heap.size CS' rfl rfl 67 _ (hT2.keep (World.alloc_heap_new w0.drew _) (by simp)) (by rw [hz]; exact info_refA) (by rw [hz]; rfl) hone ?_
        refine hK.out _ _ (setRow_turn hHeld2 (.inr (by first | exact Nat.le_refl _ | exact Nat.le_trans hHeld.size hT2.size)) _) (fun hHeld3 => ?_)
        clear hK K
        try simp only [Act.put, List.getElem_toArray, List.getElem_cons_succ, List.getElem_cons_zero, List.setIfInBounds_toArray, List.set_cons_zero, List.set_cons_succ]
        refine wpAnyH_take (i := 12) (v := ?_) rfl (by kernel_rfl) (by kernel_rfl) (by kernel_rfl) (fun _ _ _ h => h) (Or.inl ⟨by rfl, ?_⟩) (by assumption) ?_
        rotate_left
        · (intro w hSw; (try dsimp only at hSw); go_simp; try with_reducible rfl)
        try simp only [Act.put, List.getElem_toArray, List.getElem_cons_succ, List.getElem_cons_zero, List.setIfInBounds_toArray, List.set_cons_zero, List.set_cons_succ]
        refine wpAnyH_done (by kernel_rfl) ?_ _
        go_wp2_with fail
        go_meet
        exact ⟨w0.heap.size, CS', G', rfl, rfl, took_ahead (w1 := w0.drew) HE0.out hHeld _ hT2 hz hone hR hG⟩
    case rest =>
      obtain ⟨kb, CS', G', rfl, rfl, hk⟩ := hcut
      obtain ⟨hrow, hz, hone, hE2, hput, hT2, hGG⟩ := hk
      have HR1 := Lib.hid hrow
      have HR2 := Lib.hid hE2
      have HZ := Lib.hid hz
      have HONE := Lib.hid hone
      have HGG := Lib.hid hGG
      have HR4 := Lib.hid hput.2
      have hd := done_any hput.1 HLG.out Res.zero
      unfold resV Res.zero at hd
      have HD := Lib.hid hd
      clear hd hput hE2 hz hone hrow hT2 hGG
      go_wp2_with (first
        | (refine wpList_load_row rfl 67 (.tmp 8) rfl kb rfl 67 CS' (0, 0) (.struct fs) HR1.out HFS.out rfl (by rw [HZ.out]; exact info_refA) ?_)
        | (refine wpList_store_mid rfl 67 (.tmp 30) (.tmp 28) rfl eb 0 CS' rfl rfl (by rw [HZ.out]; exact HR2.out.there) (by rw [HZ.out]; exact info_refA) HONE.out ?_)
        | (go_at_call 123; go_must (with_reducible refine HD.out.mono ?_); rintro e w4 ⟨rfl, lv4, hE4, hT4, hL4⟩; have HE4 := Lib.hid hE4; have HT4 := Lib.hid (HT0.out.trans (HR4.out.trans hT4 (fun k hk => .inl hk)) (fun k hk => .inl hk)); have HL4 : Hid (∀ q, lv4.ownBlock = some q → w1.heap.size < q) := Lib.hid (fun q hq => by have h5 := hL4 q hq; have h6 := HR4.out.size; have := HZ0.out; omega); clear hE4 hT4 hL4))
      exact bodyPost_ret (by simp [results, Tryz.results105]) rfl ⟨rfl, CS', lv4, G', HE4.out, HT4.out, fun q hq => by rcases HGG.out q hq with h | h; exact .inl h; exact .inr (by have := HT1.out.size; have := HZ0.out; omega), fun q hq => .inr (by have := HL4.out q hq; have := HT1.out.size; omega)⟩
end Evn
end Go.Proofs.YtlghinjggkgfmaaGreat
