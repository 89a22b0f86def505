/- The law's Same: an arena and the document's that stand alike. -/
import Derived.Test.YtgjgoflkbcmgnaaArenaRefOps
import Derived.Test.YtgjgoflkbcmgnaaArenaRefSame
import Derived.Test.YtgjgoflkbcmgnaaArenaBlocks
import Derived.Deep.RegionHeld3
set_option linter.unusedVariables false
set_option linter.unusedSimpArgs false
namespace Go.Proofs.Ytgjgoflkbcmgnaa
namespace Arn
open Go.RowKit Hp Go.Maps

def asRB (y : Got) : RB := (y.1, .slice (some ⟨y.2.1, 0, none⟩) y.1.ws.length y.2.2)
theorem got_cells (ys : List Got) : rbCells (ys.map asRB) = gotCells ys := by simp [rbCells, gotCells, asRB, List.flatMap_map]
theorem got_blks {w : World} {v : Value} {ys : List Got} (ho : w.ownsRow 0 70 2 v ys.length (gotCells ys)) (hr : ∀ y, y ∈ ys → HasRow w y) : BlksAt w v (ys.map asRB) := by
  refine BlksAt.of_row (fun z hz => ?_) (by rw [List.length_map, got_cells]; exact ho) (Frm.Turn.refl [] w) (by simp)
  obtain ⟨y, hy, rfl⟩ := List.mem_map.1 hz
  exact WordsAt.own (hr y hy)
theorem got_fst (ys : List Got) : (ys.map asRB).map Prod.fst = ys.map Prod.fst := by simp [asRB, Function.comp_def]
set_option maxRecDepth 100000 in
set_option maxHeartbeats 8000000 in
theorem lawSame_any {w : World} {b : Nat} {M : Mem} {A : Ar} (h : ArAt w b M A) (u : Value) (G : List Nat) (hr : RefS w A u G) :
    Calls Try.prog 33 #[.pointer (some ⟨b, 0, none⟩), u] w fun e w' => e = .returned (.int .i64 1) ∧ Frm.Turn [] w w' := by
  obtain ⟨f0, f1, f2, f3, f4, f5, f6, f7, f8, hfix, v, l, rfl, hAL, hB, rfl⟩ := hr
  obtain ⟨va, vc, rfl⟩ := hB.form
  obtain ⟨fs, hfs⟩ := struct_of under_refA
  have HB := Lib.hid hB
  have HAL := Lib.hid hAL
  have HAT0 := Lib.hid h
  have HOK := Lib.hid h.ok
  have HLN := Lib.hid (len_of h.ok hAL)
  have HWD : Hid (∀ W, Frm.Turn [] w W → Calls Try.prog 21 #[.pointer (some ⟨b, 0, none⟩)] W (CloneOf W [f0, f1, f2, f3, f4, f5, f6, f7, f8])) := Lib.hid fun W hT => by have := words_any (h.step hT); rwa [hfix] at this
  obtain ⟨CS, HCS⟩ : ∃ CS, Hid (CS = refCells A f0 f1 f2 f3 f4 f5 f6 f7 f8 (.slice va l.length vc)) := ⟨_, Lib.hid rfl⟩
  have HSZCS : Hid (CS.size = 20) := Lib.hid (by rw [HCS.out]; rfl)
  have HFS := Lib.hid hfs
  obtain ⟨q, HQ⟩ : ∃ q, Hid (q = l.length) := ⟨_, Lib.hid rfl⟩
  rw [show refCells A f0 f1 f2 f3 f4 f5 f6 f7 f8 (.slice va l.length vc) = CS from HCS.out.symm]
  clear h hfs hAL hB hfix
  go_enter Try.func33, Try.ntmps33
  go_upto_region 1 with fail
  have hbx := World.alloc_heap_new w (.cells CS 54)
  have hT0 : Frm.Turn [] w (w.alloc (.cells CS 54)) := (Frm.Turn.refl [] w).alloc _
  obtain ⟨bx, Hx⟩ : ∃ bx, Hid (bx = w.heap.size) := ⟨_, Lib.hid rfl⟩
  rw [← Hx.out] at hbx ⊢
  generalize w.alloc (.cells CS 54) = W1 at hbx hT0 ⊢
  have HBX := Lib.hid hbx
  have HT0 := Lib.hid hT0
  clear hbx hT0
  go_wp2_with (first
    | (go_at_call 21; (with_reducible refine (HWD.out _ HT0.out).mono ?_); rintro e W2 ⟨g9, c9, rfl, hw9, _, hT⟩; have HW9 := Lib.hid hw9; have HT2 := Lib.hid hT; have HBX2 := Lib.hid (hT.keep HBX.out (by simp)); clear hw9 hT; simp only [List.length_cons, List.length_nil]))
  go_loopw [14] (fun i wr => ∃ j : Nat, j ≤ 9 ∧ i = .int .i64 j ∧ Frm.Turn [] W2 wr) (fun i _ => 9 - (intOf i).toNat)
  case atStart => exact ⟨0, Nat.zero_le _, rfl, Frm.Turn.refl [] _⟩
  case round =>
    obtain ⟨j, hj, rfl, hT⟩ := hrel
    have HT := Lib.hid hT
    clear hT
    by_cases hlt : j < 9
    · obtain ⟨x, HX⟩ : ∃ x, Hid (x = [f0, f1, f2, f3, f4, f5, f6, f7, f8].getD j 0) := ⟨_, Lib.hid rfl⟩
      have cW : wr.cell? ⟨g9, j, none⟩ = some (.int .u64 x) := HT.out.cell (by rw [HW9.out.cellAt j (by simpa using hlt), HX.out]; exact word_at (by simpa using hlt)) (by simp)
      have cF : wr.cell? ⟨bx, 4 + j, none⟩ = some (.int .u64 x) := HT.out.cell (by rw [Frm.cell_row _ _ _ _ _ _ HBX2.out, HCS.out, HX.out]; exact fix_cell A f0 f1 f2 f3 f4 f5 f6 f7 f8 _ _ _ (word_at (by simpa using hlt))) (by simp)
      go_upto_region 7 with fail
      go_region
      go_wp2_with fail
      go_roundw
      case rel => exact ⟨j + 1, by omega, by simp, by repeat (first | exact HT.out | apply Frm.Turn.drewN | apply Frm.Turn.drew | apply Frm.Turn.alloc)⟩
      case measure => simp [intOf]; omega
    · obtain rfl : j = 9 := by omega
      go_upto_region 10 with fail
      have hTw : Frm.Turn [] w wr := (HT0.out.trans HT2.out (by simp)).trans HT.out (by simp)
      have HAT : Hid (∀ W, Frm.Turn [] wr W → ArAt W b M A) := Lib.hid fun W hT => HAT0.out.step (hTw.trans hT (by simp))
      have HEND : Hid (∀ W, Frm.Turn [] wr W → Frm.Turn [] w W) := Lib.hid fun W hT => hTw.trans hT (by simp)
      have HBX3 := Lib.hid (HT.out.keep HBX2.out (by simp))
      have HI20 : Hid ((Try.prog.info? 54).map (·.size) = some CS.toList.length) := Lib.hid (by rw [Array.length_toList, HSZCS.out]; exact info_refA)
      have HS : Hid (∀ W, Frm.Turn [] wr W → (fun w' => w'.rangeAt bx 0 CS.toList ∧ w'.cell? ⟨bx, 0, none⟩ = some (.int .i64 A.cap) ∧ w'.cell? ⟨bx, 2, none⟩ = some (.int .i64 A.peak) ∧ w'.cell? ⟨bx, 3, none⟩ = some (.int .i64 A.faults) ∧ w'.cell? ⟨bx, 13, none⟩ = some (.slice va l.length vc) ∧ w'.cell? ⟨bx, 14, none⟩ = some (.int .i64 A.t.lays) ∧ w'.cell? ⟨bx, 15, none⟩ = some (.int .i64 A.t.frees) ∧ w'.cell? ⟨bx, 16, none⟩ = some (.int .i64 A.t.reads) ∧ w'.cell? ⟨bx, 17, none⟩ = some (.int .i64 A.t.writes) ∧ w'.cell? ⟨bx, 18, none⟩ = some (.int .i64 A.t.swaps) ∧ w'.cell? ⟨bx, 19, none⟩ = some (.int .i64 A.t.adds)) W) := Lib.hid fun W hT => by
        have hb := hT.keep HBX3.out (by simp)
        have hc : ∀ k, W.cell? ⟨bx, k, none⟩ = (refCells A f0 f1 f2 f3 f4 f5 f6 f7 f8 (.slice va l.length vc))[k]? := fun k => by rw [Frm.cell_row _ _ _ _ _ _ hb, HCS.out]
        refine ⟨fun j u hu => ?_, hc 0, hc 2, hc 3, hc 13, hc 14, hc 15, hc 16, hc 17, hc 18, hc 19⟩
        rw [Nat.zero_add, Frm.cell_row _ _ _ _ _ _ hb]
        simpa using hu
      have HTc : Hid (Frm.Turn [] wr wr.drew) := Lib.hid (Frm.Turn.refl [] wr).drew
      have HBLK : Hid (∀ W, Frm.Turn [] wr W → Calls Try.prog 22 #[.pointer (some ⟨b, 0, none⟩), .int .i64 100000] W fun e w' => ∃ v1 l1, e = .returned v1 ∧ BlksAt w' v1 l1 ∧ l1.map Prod.fst = A.L ∧ Frm.Turn [] W w') := Lib.hid fun W hT => by
        refine (blocks_any (HAT.out W hT) 100000).mono ?_
        rintro e w' ⟨v, ys, rfl, ho, hy, hrw, hT'⟩
        refine ⟨v, _, rfl, got_blks (ownsRow_zero ho) hrw, ?_, hT'⟩
        rw [got_fst, hy]
        refine List.take_of_length_le ?_
        have h1 := HLN.out
        have h2 := congrArg List.length HAL.out
        simp at h2
        simp; omega
      have hlow : ∀ y, y ∈ l → y.1.ws.length ≤ 70000 := fun y hy => by
        have := (HOK.out.len y.1 (by rw [← HAL.out]; exact List.mem_map_of_mem hy)).2
        omega
      have HLOW := Lib.hid hlow
      have HSM : Hid (∀ W v1 l1, Frm.Turn [] wr W → BlksAt W v1 l1 → l1.map Prod.fst = A.L → Calls Try.prog 34 #[v1, .slice va l.length vc] W fun e w' => e = .returned (.bool true) ∧ Frm.Turn [] W w') := Lib.hid fun W v1 l1 hT hb1 hl1 => by
        have hn1 := len_of HOK.out hl1
        have hn2 := HLN.out
        refine (refSame_any v1 _ l1 l W hb1 (HB.out.step (HEND.out W hT)) (by omega) (by omega) (fun y hy => ?_) HLOW.out).mono ?_
        · have := (HOK.out.len y.1 (by rw [← hl1]; exact List.mem_map_of_mem hy)).2
          omega
        · rintro e w' ⟨b, rfl, hb, hT'⟩
          rw [hb.2 (by rw [hl1, HAL.out])]
          exact ⟨rfl, hT'⟩
      have HRU : Hid (∀ W, Frm.Turn [] wr W → Calls Try.prog 49 #[.agg CS] W fun e w' => e = .returned (.int .i64 (used A.L : Int)) ∧ Frm.Turn [] W w') := Lib.hid fun W hT => by
        have hu : used (l.map Prod.fst) ≤ 60000 := by
          have u2 := HOK.out.top
          have u3 := HOK.out.peak
          have u4 := HOK.out.cap
          rw [HAL.out]; omega
        have := refUsed_any A f0 f1 f2 f3 f4 f5 f6 f7 f8 (.slice va l.length vc) l W (HB.out.step (HEND.out W hT)) (by have := HLN.out; omega) (by omega) HLOW.out
        rwa [HAL.out, ← HCS.out] at this
      have HCP : Hid (∀ W, Frm.Turn [] wr W → Calls Try.prog 15 #[.pointer (some ⟨b, 0, none⟩)] W fun e w' => e = .returned (.int .i64 (A.cap : Int)) ∧ Frm.Turn [] W w') := Lib.hid fun W hT => (cap_any (HAT.out W hT)).mono fun e w' ⟨h1, h2⟩ => ⟨h1, h2 ▸ Frm.Turn.refl [] W⟩
      have HUS : Hid (∀ W, Frm.Turn [] wr W → Calls Try.prog 16 #[.pointer (some ⟨b, 0, none⟩)] W fun e w' => e = .returned (.int .i64 (used A.L : Int)) ∧ Frm.Turn [] W w') := Lib.hid fun W hT => (used_any (HAT.out W hT)).mono fun e w' ⟨h1, h2⟩ => ⟨h1, h2 ▸ Frm.Turn.refl [] W⟩
      have HPK : Hid (∀ W, Frm.Turn [] wr W → Calls Try.prog 17 #[.pointer (some ⟨b, 0, none⟩)] W fun e w' => e = .returned (.int .i64 (A.peak : Int)) ∧ Frm.Turn [] W w') := Lib.hid fun W hT => (peak_any (HAT.out W hT)).mono fun e w' ⟨h1, h2⟩ => ⟨h1, h2 ▸ Frm.Turn.refl [] W⟩
      have HFT : Hid (∀ W, Frm.Turn [] wr W → Calls Try.prog 19 #[.pointer (some ⟨b, 0, none⟩)] W fun e w' => e = .returned (.int .i64 (A.faults : Int)) ∧ Frm.Turn [] W w') := Lib.hid fun W hT => (faults_any (HAT.out W hT)).mono fun e w' ⟨h1, h2⟩ => ⟨h1, h2 ▸ Frm.Turn.refl [] W⟩
      have HLE : Hid (∀ W, Frm.Turn [] wr W → Calls Try.prog 18 #[.pointer (some ⟨b, 0, none⟩)] W fun e w' => e = .returned (.int .i64 (l.length : Int)) ∧ Frm.Turn [] W w') := Lib.hid fun W hT => (len_any (HAT.out W hT)).mono fun e w' ⟨h1, h2⟩ => ⟨by rw [h1, ← HAL.out, List.length_map], h2 ▸ Frm.Turn.refl [] W⟩
      have HTA : Hid (∀ W, Frm.Turn [] wr W → Calls Try.prog 23 #[.pointer (some ⟨b, 0, none⟩)] W fun e w' => e = .returned (.agg #[.int .i64 (A.t.lays : Int), .int .i64 (A.t.frees : Int), .int .i64 (A.t.reads : Int), .int .i64 (A.t.writes : Int), .int .i64 (A.t.swaps : Int), .int .i64 (A.t.adds : Int)]) ∧ Frm.Turn [] W w') := Lib.hid fun W hT => tally_any (HAT.out W hT)
      clear hlow hTw
      refine wp_region_held_drew (S := fun w' => w'.rangeAt bx 0 CS.toList ∧ w'.cell? ⟨bx, 0, none⟩ = some (.int .i64 A.cap) ∧ w'.cell? ⟨bx, 2, none⟩ = some (.int .i64 A.peak) ∧ w'.cell? ⟨bx, 3, none⟩ = some (.int .i64 A.faults) ∧ w'.cell? ⟨bx, 13, none⟩ = some (.slice va l.length vc) ∧ w'.cell? ⟨bx, 14, none⟩ = some (.int .i64 A.t.lays) ∧ w'.cell? ⟨bx, 15, none⟩ = some (.int .i64 A.t.frees) ∧ w'.cell? ⟨bx, 16, none⟩ = some (.int .i64 A.t.reads) ∧ w'.cell? ⟨bx, 17, none⟩ = some (.int .i64 A.t.writes) ∧ w'.cell? ⟨bx, 18, none⟩ = some (.int .i64 A.t.swaps) ∧ w'.cell? ⟨bx, 19, none⟩ = some (.int .i64 A.t.adds)) (by kernel_rfl) ?_ (fun hHeld => ?_)
      · exact HS.out _ HTc.out
      refine wpAnyH_take (i := 0) (v := ?_) rfl (by kernel_rfl) (by kernel_rfl) (by kernel_rfl) (fun _ _ _ h => h) (Or.inl ⟨by rfl, ?_⟩) (by assumption) ?_
      rotate_left
      · (intro w hSw; (try dsimp only at hSw); go_simp; try with_reducible rfl)
      simp only [Act.put, List.getElem_toArray, List.getElem_cons_succ, List.getElem_cons_zero, List.setIfInBounds_toArray, List.set_cons_zero, List.set_cons_succ]
      refine wpAnyH_take (i := 2) (v := ?_) rfl (by kernel_rfl) (by kernel_rfl) (by kernel_rfl) (fun _ _ _ h => h) (Or.inl ⟨by rfl, ?_⟩) (by assumption) ?_
      rotate_left
      · (intro w hSw; (try dsimp only at hSw); go_simp; try with_reducible rfl)
      simp only [Act.put, List.getElem_toArray, List.getElem_cons_succ, List.getElem_cons_zero, List.setIfInBounds_toArray, List.set_cons_zero, List.set_cons_succ]
      refine wpAnyH_take (i := 3) (v := ?_) rfl (by kernel_rfl) (by kernel_rfl) (by kernel_rfl) (fun _ _ _ h => h) (Or.inl ⟨by rfl, ?_⟩) (by assumption) ?_
      rotate_left
      · (intro w hSw; (try dsimp only at hSw); go_simp; try with_reducible rfl)
      simp only [Act.put, List.getElem_toArray, List.getElem_cons_succ, List.getElem_cons_zero, List.setIfInBounds_toArray, List.set_cons_zero, List.set_cons_succ]
      refine wpAnyH_ready (rs := [1]) (by kernel_rfl) (by simp) ?_
      refine AllReadyH.cons rfl (fun K hK => ?_) AllReadyH.nil
      try simp only [List.getElem_toArray, List.getElem_cons_succ, List.getElem_cons_zero]
      go_simp
      go_at_call 22; (with_reducible refine (HBLK.out _ HTc.out).mono ?_); rintro e wn ⟨v1, l1, rfl, hbk, hys, hTn⟩; have HBK := Lib.hid hbk; have HYS := Lib.hid hys; have HTc := Lib.hid (HTc.out.trans hTn (by simp)); clear hbk hys hTn
      try go_wp2_with fail
      refine hK _ _ (HS.out _ HTc.out) (fun hHeld => ?_)
      clear hK K
      try simp only [Act.put, List.getElem_toArray, List.getElem_cons_succ, List.getElem_cons_zero, List.setIfInBounds_toArray, List.set_cons_zero, List.set_cons_succ]
      refine wpAnyH_ready (rs := [4]) (by kernel_rfl) (by simp) ?_
      refine AllReadyH.cons rfl (fun K hK => ?_) AllReadyH.nil
      try simp only [List.getElem_toArray, List.getElem_cons_succ, List.getElem_cons_zero]
      go_simp
      go_at_call 34; (with_reducible refine (HSM.out _ _ _ HTc.out HBK.out HYS.out).mono ?_); rintro e wn ⟨rfl, hTn⟩; have HTc := Lib.hid (HTc.out.trans hTn (by simp)); clear hTn
      try go_wp2_with fail
      refine hK _ _ (HS.out _ HTc.out) (fun hHeld => ?_)
      clear hK K
      try simp only [Act.put, List.getElem_toArray, List.getElem_cons_succ, List.getElem_cons_zero, List.setIfInBounds_toArray, List.set_cons_zero, List.set_cons_succ]
      refine wpAnyH_take (i := 5) (v := ?_) rfl (by kernel_rfl) (by kernel_rfl) (by kernel_rfl) (fun _ _ _ h => h) (Or.inl ⟨by rfl, ?_⟩) (by assumption) ?_
      rotate_left
      · (intro w hSw; (try dsimp only at hSw); go_simp; try with_reducible rfl)
      simp only [Act.put, List.getElem_toArray, List.getElem_cons_succ, List.getElem_cons_zero, List.setIfInBounds_toArray, List.set_cons_zero, List.set_cons_succ]
      refine wpAnyH_take (i := 6) (v := ?_) rfl (by kernel_rfl) (by kernel_rfl) (by kernel_rfl) (fun _ _ _ h => h) (Or.inl ⟨by rfl, ?_⟩) (by assumption) ?_
      rotate_left
      · (intro w hSw; (try dsimp only at hSw); go_simp; try with_reducible rfl)
      simp only [Act.put, List.getElem_toArray, List.getElem_cons_succ, List.getElem_cons_zero, List.setIfInBounds_toArray, List.set_cons_zero, List.set_cons_succ]
      refine wpAnyH_take (i := 7) (v := ?_) rfl (by kernel_rfl) (by kernel_rfl) (by kernel_rfl) (fun _ _ _ h => h) (Or.inl ⟨by rfl, ?_⟩) (by assumption) ?_
      rotate_left
      · (intro w hSw; (try dsimp only at hSw); go_simp; try with_reducible rfl)
      simp only [Act.put, List.getElem_toArray, List.getElem_cons_succ, List.getElem_cons_zero, List.setIfInBounds_toArray, List.set_cons_zero, List.set_cons_succ]
      refine wpAnyH_take (i := 9) (v := ?_) rfl (by kernel_rfl) (by kernel_rfl) (by kernel_rfl) (fun _ _ _ h => h) (Or.inl ⟨by rfl, ?_⟩) (by assumption) ?_
      rotate_left
      · (intro w hSw; (try dsimp only at hSw); go_simp; try with_reducible rfl)
      simp only [Act.put, List.getElem_toArray, List.getElem_cons_succ, List.getElem_cons_zero, List.setIfInBounds_toArray, List.set_cons_zero, List.set_cons_succ]
      refine wpAnyH_take (i := 10) (v := ?_) rfl (by kernel_rfl) (by kernel_rfl) (by kernel_rfl) (fun _ _ _ h => h) (Or.inl ⟨by rfl, ?_⟩) (by assumption) ?_
      rotate_left
      · (intro w hSw; (try dsimp only at hSw); go_simp; try with_reducible rfl)
      simp only [Act.put, List.getElem_toArray, List.getElem_cons_succ, List.getElem_cons_zero, List.setIfInBounds_toArray, List.set_cons_zero, List.set_cons_succ]
      refine wpAnyH_ready (rs := [8]) (by kernel_rfl) (by simp) ?_
      refine AllReadyH.cons rfl (fun K hK => ?_) AllReadyH.nil
      try simp only [List.getElem_toArray, List.getElem_cons_succ, List.getElem_cons_zero]
      go_simp
      go_at_call 15; (with_reducible refine (HCP.out _ HTc.out).mono ?_); rintro e wn ⟨rfl, hTn⟩; have HTc := Lib.hid (HTc.out.trans hTn (by simp)); clear hTn
      try go_wp2_with fail
      refine hK _ _ (HS.out _ HTc.out) (fun hHeld => ?_)
      clear hK K
      try simp only [Act.put, List.getElem_toArray, List.getElem_cons_succ, List.getElem_cons_zero, List.setIfInBounds_toArray, List.set_cons_zero, List.set_cons_succ]
      refine wpAnyH_take (i := 11) (v := ?_) rfl (by kernel_rfl) (by kernel_rfl) (by kernel_rfl) (fun _ _ _ h => h) (Or.inl ⟨by rfl, ?_⟩) (by assumption) ?_
      rotate_left
      · (intro w hSw; (try dsimp only at hSw); go_simp; try with_reducible rfl)
      simp only [Act.put, List.getElem_toArray, List.getElem_cons_succ, List.getElem_cons_zero, List.setIfInBounds_toArray, List.set_cons_zero, List.set_cons_succ]
      refine wpAnyH_take (i := 12) (v := ?_) rfl (by kernel_rfl) (by kernel_rfl) (by kernel_rfl) (fun _ _ _ h => h) (Or.inl ⟨by rfl, ?_⟩) (by assumption) ?_
      rotate_left
      · (intro w hSw; (try dsimp only at hSw); go_simp; try with_reducible rfl)
      simp only [Act.put, List.getElem_toArray, List.getElem_cons_succ, List.getElem_cons_zero, List.setIfInBounds_toArray, List.set_cons_zero, List.set_cons_succ]
      refine wpAnyH_take (i := 13) (v := ?_) rfl (by kernel_rfl) (by kernel_rfl) (by kernel_rfl) (fun _ _ _ h => h) (Or.inl ⟨by rfl, ?_⟩) (by assumption) ?_
      rotate_left
      · (intro w hSw; (try dsimp only at hSw); go_simp; try with_reducible rfl)
      simp only [Act.put, List.getElem_toArray, List.getElem_cons_succ, List.getElem_cons_zero, List.setIfInBounds_toArray, List.set_cons_zero, List.set_cons_succ]
      refine wpAnyH_take (i := 14) (v := ?_) rfl (by kernel_rfl) (by kernel_rfl) (by kernel_rfl) (fun _ _ _ h => h) (Or.inl ⟨by rfl, ?_⟩) (by assumption) ?_
      rotate_left
      · (intro w hSw; (try dsimp only at hSw); go_simp; try with_reducible rfl)
      simp only [Act.put, List.getElem_toArray, List.getElem_cons_succ, List.getElem_cons_zero, List.setIfInBounds_toArray, List.set_cons_zero, List.set_cons_succ]
      refine wpAnyH_take (i := 16) (v := _) rfl (by kernel_rfl) (by kernel_rfl) (by kernel_rfl) (fun _ _ _ h => h)
              (yieldsIf_load_mid (by rfl) _ _ rfl bx 0 rfl CS.toList _ (fun w hw => hw.1) HFS.out rfl HI20.out) (by assumption) ?_
      simp only [Act.put, List.setIfInBounds_toArray, List.set_cons_zero, List.set_cons_succ, Array.toArray_toList]
      refine wpAnyH_ready (rs := [15]) (by kernel_rfl) (by simp) ?_
      refine AllReadyH.cons rfl (fun K hK => ?_) AllReadyH.nil
      try simp only [List.getElem_toArray, List.getElem_cons_succ, List.getElem_cons_zero]
      go_simp
      go_at_call 16; (with_reducible refine (HUS.out _ HTc.out).mono ?_); rintro e wn ⟨rfl, hTn⟩; have HTc := Lib.hid (HTc.out.trans hTn (by simp)); clear hTn
      try go_wp2_with fail
      refine hK _ _ (HS.out _ HTc.out) (fun hHeld => ?_)
      clear hK K
      try simp only [Act.put, List.getElem_toArray, List.getElem_cons_succ, List.getElem_cons_zero, List.setIfInBounds_toArray, List.set_cons_zero, List.set_cons_succ]
      refine wpAnyH_ready (rs := [17]) (by kernel_rfl) (by simp) ?_
      refine AllReadyH.cons rfl (fun K hK => ?_) AllReadyH.nil
      try simp only [List.getElem_toArray, List.getElem_cons_succ, List.getElem_cons_zero]
      go_simp
      go_at_call 49; (with_reducible refine (HRU.out _ HTc.out).mono ?_); rintro e wn ⟨rfl, hTn⟩; have HTc := Lib.hid (HTc.out.trans hTn (by simp)); clear hTn
      try go_wp2_with fail
      refine hK _ _ (HS.out _ HTc.out) (fun hHeld => ?_)
      clear hK K
      try simp only [Act.put, List.getElem_toArray, List.getElem_cons_succ, List.getElem_cons_zero, List.setIfInBounds_toArray, List.set_cons_zero, List.set_cons_succ]
      refine wpAnyH_take (i := 18) (v := ?_) rfl (by kernel_rfl) (by kernel_rfl) (by kernel_rfl) (fun _ _ _ h => h) (Or.inl ⟨by rfl, ?_⟩) (by assumption) ?_
      rotate_left
      · (intro w hSw; (try dsimp only at hSw); go_simp; try with_reducible rfl)
      simp only [Act.put, List.getElem_toArray, List.getElem_cons_succ, List.getElem_cons_zero, List.setIfInBounds_toArray, List.set_cons_zero, List.set_cons_succ]
      refine wpAnyH_take (i := 19) (v := ?_) rfl (by kernel_rfl) (by kernel_rfl) (by kernel_rfl) (fun _ _ _ h => h) (Or.inl ⟨by rfl, ?_⟩) (by assumption) ?_
      rotate_left
      · (intro w hSw; (try dsimp only at hSw); go_simp; try with_reducible rfl)
      simp only [Act.put, List.getElem_toArray, List.getElem_cons_succ, List.getElem_cons_zero, List.setIfInBounds_toArray, List.set_cons_zero, List.set_cons_succ]
      refine wpAnyH_take (i := 20) (v := ?_) rfl (by kernel_rfl) (by kernel_rfl) (by kernel_rfl) (fun _ _ _ h => h) (Or.inl ⟨by rfl, ?_⟩) (by assumption) ?_
      rotate_left
      · (intro w hSw; (try dsimp only at hSw); go_simp; try with_reducible rfl)
      simp only [Act.put, List.getElem_toArray, List.getElem_cons_succ, List.getElem_cons_zero, List.setIfInBounds_toArray, List.set_cons_zero, List.set_cons_succ]
      refine wpAnyH_take (i := 21) (v := ?_) rfl (by kernel_rfl) (by kernel_rfl) (by kernel_rfl) (fun _ _ _ h => h) (Or.inl ⟨by rfl, ?_⟩) (by assumption) ?_
      rotate_left
      · (intro w hSw; (try dsimp only at hSw); go_simp; try with_reducible rfl)
      simp only [Act.put, List.getElem_toArray, List.getElem_cons_succ, List.getElem_cons_zero, List.setIfInBounds_toArray, List.set_cons_zero, List.set_cons_succ]
      refine wpAnyH_take (i := 23) (v := ?_) rfl (by kernel_rfl) (by kernel_rfl) (by kernel_rfl) (fun _ _ _ h => h) (Or.inl ⟨by rfl, ?_⟩) (by assumption) ?_
      rotate_left
      · (intro w hSw; (try dsimp only at hSw); go_simp; try with_reducible rfl)
      simp only [Act.put, List.getElem_toArray, List.getElem_cons_succ, List.getElem_cons_zero, List.setIfInBounds_toArray, List.set_cons_zero, List.set_cons_succ]
      refine wpAnyH_take (i := 24) (v := ?_) rfl (by kernel_rfl) (by kernel_rfl) (by kernel_rfl) (fun _ _ _ h => h) (Or.inl ⟨by rfl, ?_⟩) (by assumption) ?_
      rotate_left
      · (intro w hSw; (try dsimp only at hSw); go_simp; try with_reducible rfl)
      simp only [Act.put, List.getElem_toArray, List.getElem_cons_succ, List.getElem_cons_zero, List.setIfInBounds_toArray, List.set_cons_zero, List.set_cons_succ]
      refine wpAnyH_ready (rs := [22]) (by kernel_rfl) (by simp) ?_
      refine AllReadyH.cons rfl (fun K hK => ?_) AllReadyH.nil
      try simp only [List.getElem_toArray, List.getElem_cons_succ, List.getElem_cons_zero]
      go_simp
      go_at_call 17; (with_reducible refine (HPK.out _ HTc.out).mono ?_); rintro e wn ⟨rfl, hTn⟩; have HTc := Lib.hid (HTc.out.trans hTn (by simp)); clear hTn
      try go_wp2_with fail
      refine hK _ _ (HS.out _ HTc.out) (fun hHeld => ?_)
      clear hK K
      try simp only [Act.put, List.getElem_toArray, List.getElem_cons_succ, List.getElem_cons_zero, List.setIfInBounds_toArray, List.set_cons_zero, List.set_cons_succ]
      refine wpAnyH_take (i := 25) (v := ?_) rfl (by kernel_rfl) (by kernel_rfl) (by kernel_rfl) (fun _ _ _ h => h) (Or.inl ⟨by rfl, ?_⟩) (by assumption) ?_
      rotate_left
      · (intro w hSw; (try dsimp only at hSw); go_simp; try with_reducible rfl)
      simp only [Act.put, List.getElem_toArray, List.getElem_cons_succ, List.getElem_cons_zero, List.setIfInBounds_toArray, List.set_cons_zero, List.set_cons_succ]
      refine wpAnyH_take (i := 26) (v := ?_) rfl (by kernel_rfl) (by kernel_rfl) (by kernel_rfl) (fun _ _ _ h => h) (Or.inl ⟨by rfl, ?_⟩) (by assumption) ?_
      rotate_left
      · (intro w hSw; (try dsimp only at hSw); go_simp; try with_reducible rfl)
      simp only [Act.put, List.getElem_toArray, List.getElem_cons_succ, List.getElem_cons_zero, List.setIfInBounds_toArray, List.set_cons_zero, List.set_cons_succ]
      refine wpAnyH_take (i := 27) (v := ?_) rfl (by kernel_rfl) (by kernel_rfl) (by kernel_rfl) (fun _ _ _ h => h) (Or.inl ⟨by rfl, ?_⟩) (by assumption) ?_
      rotate_left
      · (intro w hSw; (try dsimp only at hSw); go_simp; try with_reducible rfl)
      simp only [Act.put, List.getElem_toArray, List.getElem_cons_succ, List.getElem_cons_zero, List.setIfInBounds_toArray, List.set_cons_zero, List.set_cons_succ]
      refine wpAnyH_take (i := 28) (v := ?_) rfl (by kernel_rfl) (by kernel_rfl) (by kernel_rfl) (fun _ _ _ h => h) (Or.inl ⟨by rfl, ?_⟩) (by assumption) ?_
      rotate_left
      · (intro w hSw; (try dsimp only at hSw); go_simp; try with_reducible rfl)
      simp only [Act.put, List.getElem_toArray, List.getElem_cons_succ, List.getElem_cons_zero, List.setIfInBounds_toArray, List.set_cons_zero, List.set_cons_succ]
      refine wpAnyH_take (i := 30) (v := ?_) rfl (by kernel_rfl) (by kernel_rfl) (by kernel_rfl) (fun _ _ _ h => h) (Or.inl ⟨by rfl, ?_⟩) (by assumption) ?_
      rotate_left
      · (intro w hSw; (try dsimp only at hSw); go_simp; try with_reducible rfl)
      simp only [Act.put, List.getElem_toArray, List.getElem_cons_succ, List.getElem_cons_zero, List.setIfInBounds_toArray, List.set_cons_zero, List.set_cons_succ]
      refine wpAnyH_take (i := 31) (v := ?_) rfl (by kernel_rfl) (by kernel_rfl) (by kernel_rfl) (fun _ _ _ h => h) (Or.inl ⟨by rfl, ?_⟩) (by assumption) ?_
      rotate_left
      · (intro w hSw; (try dsimp only at hSw); go_simp; try with_reducible rfl)
      simp only [Act.put, List.getElem_toArray, List.getElem_cons_succ, List.getElem_cons_zero, List.setIfInBounds_toArray, List.set_cons_zero, List.set_cons_succ]
      refine wpAnyH_take (i := 32) (v := ?_) rfl (by kernel_rfl) (by kernel_rfl) (by kernel_rfl) (fun _ _ _ h => h) (Or.inl ⟨by rfl, ?_⟩) (by assumption) ?_
      rotate_left
      · (intro w hSw; (try dsimp only at hSw); go_simp; try with_reducible rfl)
      simp only [Act.put, List.getElem_toArray, List.getElem_cons_succ, List.getElem_cons_zero, List.setIfInBounds_toArray, List.set_cons_zero, List.set_cons_succ]
      refine wpAnyH_ready (rs := [29]) (by kernel_rfl) (by simp) ?_
      refine AllReadyH.cons rfl (fun K hK => ?_) AllReadyH.nil
      try simp only [List.getElem_toArray, List.getElem_cons_succ, List.getElem_cons_zero]
      go_simp
      go_at_call 18; (with_reducible refine (HLE.out _ HTc.out).mono ?_); rintro e wn ⟨rfl, hTn⟩; have HTc := Lib.hid (HTc.out.trans hTn (by simp)); clear hTn
      try go_wp2_with fail
      refine hK _ _ (HS.out _ HTc.out) (fun hHeld => ?_)
      clear hK K
      try simp only [Act.put, List.getElem_toArray, List.getElem_cons_succ, List.getElem_cons_zero, List.setIfInBounds_toArray, List.set_cons_zero, List.set_cons_succ]
      refine wpAnyH_take (i := 33) (v := ?_) rfl (by kernel_rfl) (by kernel_rfl) (by kernel_rfl) (fun _ _ _ h => h) (Or.inl ⟨by rfl, ?_⟩) (by assumption) ?_
      rotate_left
      · (intro w hSw; (try dsimp only at hSw); go_simp; try with_reducible rfl)
      simp only [Act.put, List.getElem_toArray, List.getElem_cons_succ, List.getElem_cons_zero, List.setIfInBounds_toArray, List.set_cons_zero, List.set_cons_succ]
      refine wpAnyH_take (i := 34) (v := ?_) rfl (by kernel_rfl) (by kernel_rfl) (by kernel_rfl) (fun _ _ _ h => h) (Or.inl ⟨by rfl, ?_⟩) (by assumption) ?_
      rotate_left
      · (intro w hSw; (try dsimp only at hSw); go_simp; try with_reducible rfl)
      simp only [Act.put, List.getElem_toArray, List.getElem_cons_succ, List.getElem_cons_zero, List.setIfInBounds_toArray, List.set_cons_zero, List.set_cons_succ]
      refine wpAnyH_take (i := 35) (v := ?_) rfl (by kernel_rfl) (by kernel_rfl) (by kernel_rfl) (fun _ _ _ h => h) (Or.inl ⟨by rfl, ?_⟩) (by assumption) ?_
      rotate_left
      · (intro w hSw; (try dsimp only at hSw); go_simp; try with_reducible rfl)
      simp only [Act.put, List.getElem_toArray, List.getElem_cons_succ, List.getElem_cons_zero, List.setIfInBounds_toArray, List.set_cons_zero, List.set_cons_succ]
      refine wpAnyH_take (i := 36) (v := ?_) rfl (by kernel_rfl) (by kernel_rfl) (by kernel_rfl) (fun _ _ _ h => h) (Or.inl ⟨by rfl, ?_⟩) (by assumption) ?_
      rotate_left
      · (intro w hSw; (try dsimp only at hSw); go_simp; try with_reducible rfl)
      simp only [Act.put, List.getElem_toArray, List.getElem_cons_succ, List.getElem_cons_zero, List.setIfInBounds_toArray, List.set_cons_zero, List.set_cons_succ]
      refine wpAnyH_take (i := 38) (v := ?_) rfl (by kernel_rfl) (by kernel_rfl) (by kernel_rfl) (fun _ _ _ h => h) (Or.inl ⟨by rfl, ?_⟩) (by assumption) ?_
      rotate_left
      · (intro w hSw; (try dsimp only at hSw); go_simp; try with_reducible rfl)
      simp only [Act.put, List.getElem_toArray, List.getElem_cons_succ, List.getElem_cons_zero, List.setIfInBounds_toArray, List.set_cons_zero, List.set_cons_succ]
      refine wpAnyH_take (i := 39) (v := ?_) rfl (by kernel_rfl) (by kernel_rfl) (by kernel_rfl) (fun _ _ _ h => h) (Or.inl ⟨by rfl, ?_⟩) (by assumption) ?_
      rotate_left
      · (intro w hSw; (try dsimp only at hSw); go_simp; try with_reducible rfl)
      simp only [Act.put, List.getElem_toArray, List.getElem_cons_succ, List.getElem_cons_zero, List.setIfInBounds_toArray, List.set_cons_zero, List.set_cons_succ]
      refine wpAnyH_ready (rs := [37]) (by kernel_rfl) (by simp) ?_
      refine AllReadyH.cons rfl (fun K hK => ?_) AllReadyH.nil
      try simp only [List.getElem_toArray, List.getElem_cons_succ, List.getElem_cons_zero]
      go_simp
      go_at_call 19; (with_reducible refine (HFT.out _ HTc.out).mono ?_); rintro e wn ⟨rfl, hTn⟩; have HTc := Lib.hid (HTc.out.trans hTn (by simp)); clear hTn
      try go_wp2_with fail
      refine hK _ _ (HS.out _ HTc.out) (fun hHeld => ?_)
      clear hK K
      try simp only [Act.put, List.getElem_toArray, List.getElem_cons_succ, List.getElem_cons_zero, List.setIfInBounds_toArray, List.set_cons_zero, List.set_cons_succ]
      refine wpAnyH_take (i := 40) (v := ?_) rfl (by kernel_rfl) (by kernel_rfl) (by kernel_rfl) (fun _ _ _ h => h) (Or.inl ⟨by rfl, ?_⟩) (by assumption) ?_
      rotate_left
      · (intro w hSw; (try dsimp only at hSw); go_simp; try with_reducible rfl)
      simp only [Act.put, List.getElem_toArray, List.getElem_cons_succ, List.getElem_cons_zero, List.setIfInBounds_toArray, List.set_cons_zero, List.set_cons_succ]
      refine wpAnyH_take (i := 41) (v := ?_) rfl (by kernel_rfl) (by kernel_rfl) (by kernel_rfl) (fun _ _ _ h => h) (Or.inl ⟨by rfl, ?_⟩) (by assumption) ?_
      rotate_left
      · (intro w hSw; (try dsimp only at hSw); go_simp; try with_reducible rfl)
      simp only [Act.put, List.getElem_toArray, List.getElem_cons_succ, List.getElem_cons_zero, List.setIfInBounds_toArray, List.set_cons_zero, List.set_cons_succ]
      refine wpAnyH_take (i := 42) (v := ?_) rfl (by kernel_rfl) (by kernel_rfl) (by kernel_rfl) (fun _ _ _ h => h) (Or.inl ⟨by rfl, ?_⟩) (by assumption) ?_
      rotate_left
      · (intro w hSw; (try dsimp only at hSw); go_simp; try with_reducible rfl)
      simp only [Act.put, List.getElem_toArray, List.getElem_cons_succ, List.getElem_cons_zero, List.setIfInBounds_toArray, List.set_cons_zero, List.set_cons_succ]
      refine wpAnyH_take (i := 43) (v := ?_) rfl (by kernel_rfl) (by kernel_rfl) (by kernel_rfl) (fun _ _ _ h => h) (Or.inl ⟨by rfl, ?_⟩) (by assumption) ?_
      rotate_left
      · (intro w hSw; (try dsimp only at hSw); go_simp; try with_reducible rfl)
      simp only [Act.put, List.getElem_toArray, List.getElem_cons_succ, List.getElem_cons_zero, List.setIfInBounds_toArray, List.set_cons_zero, List.set_cons_succ]
      refine wpAnyH_take (i := 45) (v := ?_) rfl (by kernel_rfl) (by kernel_rfl) (by kernel_rfl) (fun _ _ _ h => h) (Or.inl ⟨by rfl, ?_⟩) (by assumption) ?_
      rotate_left
      · (intro w hSw; (try dsimp only at hSw); go_simp; try with_reducible rfl)
      simp only [Act.put, List.getElem_toArray, List.getElem_cons_succ, List.getElem_cons_zero, List.setIfInBounds_toArray, List.set_cons_zero, List.set_cons_succ]
      refine wpAnyH_take (i := 46) (v := ?_) rfl (by kernel_rfl) (by kernel_rfl) (by kernel_rfl) (fun _ _ _ h => h) (Or.inl ⟨by rfl, ?_⟩) (by assumption) ?_
      rotate_left
      · (intro w hSw; (try dsimp only at hSw); go_simp; try with_reducible rfl)
      simp only [Act.put, List.getElem_toArray, List.getElem_cons_succ, List.getElem_cons_zero, List.setIfInBounds_toArray, List.set_cons_zero, List.set_cons_succ]
      refine wpAnyH_ready (rs := [44]) (by kernel_rfl) (by simp) ?_
      refine AllReadyH.cons rfl (fun K hK => ?_) AllReadyH.nil
      try simp only [List.getElem_toArray, List.getElem_cons_succ, List.getElem_cons_zero]
      go_simp
      go_at_call 23; (with_reducible refine (HTA.out _ HTc.out).mono ?_); rintro e wn ⟨rfl, hTn⟩; have HTc := Lib.hid (HTc.out.trans hTn (by simp)); clear hTn
      try go_wp2_with fail
      refine hK _ _ (HS.out _ HTc.out) (fun hHeld => ?_)
      clear hK K
      try simp only [Act.put, List.getElem_toArray, List.getElem_cons_succ, List.getElem_cons_zero, List.setIfInBounds_toArray, List.set_cons_zero, List.set_cons_succ]
      refine wpAnyH_take (i := 47) (v := ?_) rfl (by kernel_rfl) (by kernel_rfl) (by kernel_rfl) (fun _ _ _ h => h) (Or.inl ⟨by rfl, ?_⟩) (by assumption) ?_
      rotate_left
      · (intro w hSw; (try dsimp only at hSw); go_simp; try with_reducible rfl)
      simp only [Act.put, List.getElem_toArray, List.getElem_cons_succ, List.getElem_cons_zero, List.setIfInBounds_toArray, List.set_cons_zero, List.set_cons_succ]
      refine wpAnyH_take (i := 48) (v := ?_) rfl (by kernel_rfl) (by kernel_rfl) (by kernel_rfl) (fun _ _ _ h => h) (Or.inl ⟨by rfl, ?_⟩) (by assumption) ?_
      rotate_left
      · (intro w hSw; (try dsimp only at hSw); go_simp; try with_reducible rfl)
      simp only [Act.put, List.getElem_toArray, List.getElem_cons_succ, List.getElem_cons_zero, List.setIfInBounds_toArray, List.set_cons_zero, List.set_cons_succ]
      refine wpAnyH_done (by kernel_rfl) ?_ _
      go_wp2_with fail
      go_ret
      exact ⟨rfl, HEND.out _ HTc.out⟩
end Arn
end Go.Proofs.Ytgjgoflkbcmgnaa
