/- HeadLists: which entries stand behind any cursor, in any arena. Made by tools/head-lists.py. -/
import Derived.Test.YtmjdcpcndggflaaDoorHeadNil
import Derived.Test.YtmjdcpcndggflaaDoorQuadLaid
import Derived.Deep.QuietTactic
import Derived.BigQuiet
import Derived.BigRegion
set_option linter.unusedVariables false
set_option linter.unusedSimpArgs false
namespace Go.Proofs.YtmjdcpcndggflaaDoor
namespace Hed
open Go.RowKit Go.Maps Arn Qud

theorem blk6 {W : World} {g : Nat} {x0 x1 x2 x3 x4 x5 : Value} {t : TypeId} (h : W.heap[g]? = some (.cells #[x0, x1, x2, x3, x4, x5] t (0, 0))) :
    W.cell? ⟨g, 0, none⟩ = some x0 ∧ W.cell? ⟨g, 1, none⟩ = some x1 ∧ W.cell? ⟨g, 2, none⟩ = some x2 ∧ W.cell? ⟨g, 3, none⟩ = some x3 ∧ W.cell? ⟨g, 4, none⟩ = some x4 ∧ W.cell? ⟨g, 5, none⟩ = some x5 := by
  refine ⟨?_, ?_, ?_, ?_, ?_, ?_⟩ <;> (rw [Frm.cell_row _ _ _ _ _ _ h]; rfl)
theorem entCells_all {l : List (Int × Ent)} {j : Nat} {h s n y : Int} (hj : l[j]? = some (h, (s, n, y))) : (entCells l)[j * 3]? = some (.int .i64 s) ∧ (entCells l)[j * 3 + 1]? = some (.int .u64 n) ∧ (entCells l)[j * 3 + 2]? = some (.int .u64 y) := by
  induction l generalizing j with
  | nil => simp at hj
  | cons x t ih =>
    cases j with
    | zero => simp at hj; subst hj; exact ⟨rfl, rfl, rfl⟩
    | succ j =>
      have h1 := ih (j := j) (by simpa using hj)
      have e : entCells (x :: t) = [.int .i64 x.2.1, .int .u64 x.2.2.1, .int .u64 x.2.2.2] ++ entCells t := rfl
      rw [e, show (j + 1) * 3 = 3 + j * 3 by omega, show 3 + j * 3 + 1 = 3 + (j * 3 + 1) by omega, show 3 + j * 3 + 2 = 3 + (j * 3 + 2) by omega, List.getElem?_append_right (by simp), List.getElem?_append_right (by simp), List.getElem?_append_right (by simp)]
      simpa using h1
/-- An entry in a row of one's own. -/
theorem row_ent {W : World} {base m : Nat} {ao : Option Addr} {c : Nat} {l : List (Int × Ent)} (h : W.ownsRow base 26 3 (.slice ao m c) m (entCells l)) {j : Nat} {k s n y : Int} (hj : l[j]? = some (k, (s, n, y))) (hm : 0 < m) :
    ∃ g, ao = some ⟨g, 0, none⟩ ∧ W.cell? ⟨g, j * 3, none⟩ = some (.int .i64 s) ∧ W.cell? ⟨g, j * 3 + 1, none⟩ = some (.int .u64 n) ∧ W.cell? ⟨g, j * 3 + 2, none⟩ = some (.int .u64 y) := by
  obtain ⟨e0, e1, e2⟩ := entCells_all hj
  have h0 := h
  rcases h.2 with ⟨_, q⟩ | ⟨g, c', cur, q, _⟩
  · omega
  · simp only [Value.slice.injEq] at q
    obtain ⟨rfl, _, rfl⟩ := q
    have f0 := World.ownsRow.cells h0 rfl _ _ e0
    have f1 := World.ownsRow.cells h0 rfl _ _ e1
    have f2 := World.ownsRow.cells h0 rfl _ _ e2
    rw [Addr.add_mid, Nat.zero_add] at f0 f1 f2
    exact ⟨g, rfl, f0, f1, f2⟩
set_option maxRecDepth 100000 in
set_option maxHeartbeats 8000000 in
theorem lists_far (a0 : Option Addr) (len cap : Nat) (c : Int) (w : World) (hk : Ops.Kn w) (hl : 60 < len) :
    Calls Tryd.prog 5 #[.slice a0 len cap, .int .u64 c] w fun e w' => e = .returned (.bool true) ∧ Frm.Turn [] w w' := by
  have HF := Lib.hid (first_any w hk)
  have i0 : (60 : Int) < (len : Int) := by omega
  clear hl hk
  go_enter Tryd.func5, Tryd.ntmps5
  go_wp2_with (go_at_call 8; (with_reducible refine (HF.out).mono ?_); rintro e w1 ⟨rfl, hT⟩; have WT := Lib.hid hT; clear hT)
  go_ret
  exact ⟨rfl, WT.out⟩
set_option maxRecDepth 100000 in
set_option maxHeartbeats 16000000 in
theorem lists_any (wv : Value) (R : List RowV) (c : Int) (w : World) (hk : Ops.Kn w) (hw : RowsAt w wv R) (h64 : ∀ x, x ∈ R → (∀ z, z ∈ x.2 → W64 z) ∧ x.2.length ≤ 9223372036854775807) (hc : W64 c) (hm : R.length ≤ 60) :
    Calls Tryd.prog 5 #[wv, .int .u64 c] w fun e w' => e = .returned (.bool true) ∧ Frm.Turn [] w w' := by
  obtain ⟨wa, wc, rfl⟩ := Qud.rows_form hw
  obtain ⟨m, HM⟩ : ∃ m, Hid (m = R.length) := ⟨_, Lib.hid rfl⟩
  have HW := Lib.hid hw
  have HF := Lib.hid (first_any w hk)
  have HK := Lib.hid hk
  have HC := Lib.hid hc
  have HBl : Hid (∀ W, Frm.Turn [] w W → Calls Tryd.prog 18 #[.slice wa R.length wc] W fun e w' => Qud.Told W R.length e w') := Lib.hid fun W hT => laid_told _ R W (hw.turn hT (by simp) (by simp)) (by omega) h64
  obtain ⟨fs, hfs⟩ := struct_of under_refA
  have HFS := Lib.hid hfs
  rw [← HM.out] at hm HW HBl ⊢
  clear hk hw h64 hc hfs
  go_enter Tryd.func5, Tryd.ntmps5
  go_wp2_with (go_at_call 8; (with_reducible refine (HF.out).mono ?_); rintro e w1 ⟨rfl, hT⟩; have WT := Lib.hid hT; clear hT)
  go_loopw [30] (fun i wr => ∃ j : Nat, j ≤ m ∧ i = .int .i64 (j : Int) ∧ Frm.Turn [] w wr) (fun i _ => m - (intOf i).toNat)
  case atStart => exact ⟨0, Nat.zero_le _, rfl, WT.out⟩
  case round =>
    obtain ⟨j, hj, rfl, hT⟩ := hrel
    by_cases hlt : j < m
    · obtain ⟨y, hy⟩ : ∃ y, R[j]? = some y := ⟨_, List.getElem?_eq_getElem (by rw [← HM.out]; exact hlt)⟩
      obtain ⟨og, oo, rfl, hcA⟩ := Qud.rows_cell HW.out hy
      have hcB := hT.cell hcA (by simp)
      obtain ⟨ya, yc, hyf⟩ := Qud.words_form (HW.out.2 y (List.mem_of_getElem? hy))
      rw [hyf] at hcB
      have i1 : (j : Int) < (m : Int) := by omega
      have i0 : (0 : Int) ≤ (j : Int) := by omega
      have HT := Lib.hid hT
      clear hT hcA hyf hy
      generalize y.2.length = q at hcB
      by_cases h50 : 50 < q
      · have h50' : (50 : Int) < (q : Int) := by omega
        go_wp2
        go_ret
        exact ⟨rfl, HT.out⟩
      · have h50' : ¬ (50 : Int) < (q : Int) := by omega
        go_wp2_with fail
        go_roundw
        case rel => exact ⟨j + 1, by omega, by simp, HT.out⟩
        case measure => simp [intOf]; omega
    · obtain rfl : j = m := by omega
      have HT := Lib.hid hT
      clear hT hlt hj
      go_upto_region 12 with (first
        | (go_at_call 18; (with_reducible refine (HBl.out _ HT.out).mono ?_); rintro e w2 ⟨b, u, A, M, G, rfl, hus, hu1, hs, hr, hf⟩; have HUS := Lib.hid hus; have HU1 := Lib.hid hu1; have HS2 := Lib.hid hs; have HR2 := Lib.hid hr; have HF2 := Lib.hid hf; clear hus hu1 hs hr hf)
        | (refine wpList_store_row rfl 46 (.tmp 8) (.tmp 42) rfl w2.heap.size u rfl rfl 46 zero20 (World.alloc_heap_new w2 _) (by rw [HUS.out]; exact info_refA) (by rw [HUS.out]; rfl) HU1.out ?_))
      simp only [Act.put]
      have h1 := World.alloc_heap_new w2 (.cells zero20 46)
      have hT2 : Frm.Turn [] w2 ((w2.alloc (.cells zero20 46)).setRow w2.heap.size u) := Hed.setRow_turn ((Frm.Turn.refl [] w2).alloc _) (.inr (Nat.le_refl _)) _
      have h8 := setRow_heap _ w2.heap.size zero20 u _ _ h1
      have hS := HS2.out.step hT2
      have hR := HR2.out.turn hT2 (by simp)
      have hWr : Frm.Turn [] w ((w2.alloc (.cells zero20 46)).setRow w2.heap.size u) := HT.out.trans (HS2.out.turn.trans hT2 (by simp)) (by simp)
      unfold zero20 at hT2 h8 hS hR hWr
      generalize (w2.alloc _).setRow w2.heap.size u = W2 at hT2 h8 hS hR hWr ⊢
      generalize w2.heap.size = b8 at h8 ⊢
      obtain ⟨v, l, hu, hl, hB, _⟩ := hR
      simp only [Value.agg.injEq] at hu
      have hok := hS.at_.ok
      have HF0 := Lib.hid HF2.out
      have HRL := Lib.hid (fun W (hTW : Frm.Turn [] W2 W) => rlist_any A u v l c W hu hl (hB.step hTW) hok HC.out)
      have HLi := Lib.hid (fun W (hTW : Frm.Turn [] W2 W) => list_one (hS.step hTW).at_ (HK.out.turn (hWr.trans hTW (by simp))) c HC.out)
      have HHa := Lib.hid (fun W (hTW : Frm.Turn [] W2 W) => hands_one (hS.step hTW).at_ (HK.out.turn (hWr.trans hTW (by simp))) c HC.out)
      have HTl := Lib.hid (fun W (hTW : Frm.Turn [] W2 W) => tally_any (hS.step hTW).at_)
      have HFa : Hid (∀ W, Frm.Turn [] W2 W → Calls Tryd.prog 23 #[.pointer (some ⟨b, 0, none⟩)] W fun e w' => e = .returned (.int .i64 0) ∧ W = w') := Lib.hid (fun W hTW => by
        have h := faults_any (hS.step hTW).at_
        rw [HF0.out] at h
        exact h)
      have hsh := chain_short (f := entsOf A.L) (c := c)
      unfold RListEnd at HRL
      unfold tal at HTl
      generalize (chainF (entsOf A.L) 1000 c).isSome = bo at HRL HLi HHa
      generalize (chainF (entsOf A.L) 1000 c).getD [] = pre at HRL HLi HHa hsh
      generalize ((A.t.lays : Nat) : Int) = t0 at HTl
      generalize ((A.t.frees : Nat) : Int) = t1 at HTl
      generalize ((A.t.reads : Nat) : Int) = t2 at HTl
      generalize ((A.t.writes : Nat) : Int) = t3 at HTl
      generalize ((A.t.swaps : Nat) : Int) = t4 at HTl
      generalize ((A.t.adds : Nat) : Int) = t5 at HTl
      have HN1 := Lib.hid list_nil
      have HN2 := Lib.hid hands_nil
      have H8 := Lib.hid h8
      have HWR := Lib.hid hWr
      have HSH := Lib.hid hsh
      have eqt := fun W : World => eq_tal W t0 t1 t2 t3 t4 t5
      clear h1 hT2 h8 hS hWr hu hl hB hok hsh
      go_upto_region 19 with (first
        | (go_at_call 19; (with_reducible refine (HTl.out _ (Frm.Turn.refl [] W2)).mono ?_); rintro e w3 ⟨rfl, hT⟩; have X := Lib.hid (hT.alloc (.cells #[.int .i64 t0, .int .i64 t1, .int .i64 t2, .int .i64 t3, .int .i64 t4, .int .i64 t5] 44)); have HB9 := Lib.hid (heap_new w3 (.cells #[.int .i64 t0, .int .i64 t1, .int .i64 t2, .int .i64 t3, .int .i64 t4, .int .i64 t5] 44)); have XB := Lib.hid (Frm.Turn.refl [] (w3.alloc (.cells #[.int .i64 t0, .int .i64 t1, .int .i64 t2, .int .i64 t3, .int .i64 t4, .int .i64 t5] 44))); clear hT)
        | (go_at_call 20; (with_reducible refine (HLi.out _ X.out).mono ?_); rintro e w4 ⟨v4, rfl, ho, hT⟩; obtain ⟨a4, c4, rfl⟩ := Frm.row_form ho; have HO4 := Lib.hid ho; have X := Lib.hid (X.out.trans hT (by simp)); have XB := Lib.hid (XB.out.trans hT (by simp)); clear ho hT)
        | (go_at_call 21; (with_reducible refine (HHa.out _ X.out).mono ?_); rintro e w5 ⟨v5, rfl, ho, hT⟩; obtain ⟨a5, c5, rfl⟩ := Frm.row_form ho; have HO4 := Lib.hid (Frm.owns_turn HO4.out hT (by simp)); have HO5 := Lib.hid ho; have X := Lib.hid (X.out.trans hT (by simp)); have XB := Lib.hid (XB.out.trans hT (by simp)); have H8 := Lib.hid (X.out.keep H8.out (by simp)); clear ho hT)
        | (refine wpList_load_row rfl 46 (.tmp 8) rfl b8 rfl 46 u (0, 0) (.struct fs) H8.out HFS.out rfl (by rw [HUS.out]; exact info_refA) ?_)
        | (go_at_call 22; (with_reducible refine (HRL.out _ X.out).mono ?_); rintro e w6 ⟨v6, v7, rfl, ho, ho', hT⟩; obtain ⟨a6, c6, rfl⟩ := Frm.row_form ho; obtain ⟨a7, c7, rfl⟩ := Frm.row_form ho'; have HO4 := Lib.hid (Frm.owns_turn HO4.out hT (by simp)); have HO5 := Lib.hid (Frm.owns_turn HO5.out hT (by simp)); have HO6 := Lib.hid ho; have HO7 := Lib.hid ho'; have X := Lib.hid (X.out.trans hT (by simp)); have XB := Lib.hid (XB.out.trans hT (by simp)); clear ho ho' hT)
        | (go_at_call 20; (with_reducible refine (HN1.out _).mono ?_); rintro e w7 ⟨an, nn, cn, rfl, hT⟩; have XN := Lib.hid hT; have X := Lib.hid (X.out.trans hT (by simp)); have XB := Lib.hid (XB.out.trans hT (by simp)); clear hT)
        | (go_at_call 21; (with_reducible refine (HN2.out _).mono ?_); rintro e w8 ⟨rfl, hT⟩; have XN := Lib.hid (XN.out.trans hT (by simp)); have X := Lib.hid (X.out.trans hT (by simp)); have XB := Lib.hid (XB.out.trans hT (by simp)); clear hT))
      have HO4 := Lib.hid (Frm.owns_turn HO4.out XN.out (by simp))
      have HO6 := Lib.hid (Frm.owns_turn HO6.out XN.out (by simp))
      have HWd := Lib.hid (fun W (hTW : Frm.Turn [] w8 W) => Words_same (words_of_row (Frm.owns_turn HO5.out (XN.out.trans hTW (by simp)) (by simp))) (words_of_row (Frm.owns_turn HO7.out (XN.out.trans hTW (by simp)) (by simp))) (by have := HSH.out; simp [hands]; omega))
      obtain ⟨b9, HB9N⟩ : ∃ b9, Hid (b9 = w3.heap.size) := ⟨_, Lib.hid rfl⟩
      rw [← HB9N.out]
      have HS : Hid (∀ W, Frm.Turn [] w8 W → W.cell? ⟨b9, 0, none⟩ = some (.int .i64 t0) ∧ W.cell? ⟨b9, 1, none⟩ = some (.int .i64 t1) ∧ W.cell? ⟨b9, 2, none⟩ = some (.int .i64 t2) ∧ W.cell? ⟨b9, 3, none⟩ = some (.int .i64 t3) ∧ W.cell? ⟨b9, 4, none⟩ = some (.int .i64 t4) ∧ W.cell? ⟨b9, 5, none⟩ = some (.int .i64 t5)) := Lib.hid fun W hTW => blk6 ((XB.out.trans hTW (by simp)).keep (by rw [HB9N.out]; exact HB9.out) (by simp))
      refine wp_region_held_drew (S := fun W' => W'.cell? ⟨b9, 0, none⟩ = some (.int .i64 t0) ∧ W'.cell? ⟨b9, 1, none⟩ = some (.int .i64 t1) ∧ W'.cell? ⟨b9, 2, none⟩ = some (.int .i64 t2) ∧ W'.cell? ⟨b9, 3, none⟩ = some (.int .i64 t3) ∧ W'.cell? ⟨b9, 4, none⟩ = some (.int .i64 t4) ∧ W'.cell? ⟨b9, 5, none⟩ = some (.int .i64 t5)) (by kernel_rfl) ?_ (fun hHeld => ?_)
      · exact HS.out _ (Frm.Turn.refl [] w8).drew
      refine wpAnyH_take (i := 0) (v := ?_) rfl (by kernel_rfl) (by kernel_rfl) (by kernel_rfl) (fun _ _ _ h => h) (Or.inl ⟨by rfl, ?_⟩) (by assumption) ?_
      rotate_left
      · (intro w hSw; (try dsimp only at hSw); go_simp; try with_reducible rfl)
      try simp only [Act.put, List.getElem_toArray, List.getElem_cons_succ, List.getElem_cons_zero, List.setIfInBounds_toArray, List.set_cons_zero, List.set_cons_succ]
      refine wpAnyH_take (i := 1) (v := ?_) rfl (by kernel_rfl) (by kernel_rfl) (by kernel_rfl) (fun _ _ _ h => h) (Or.inl ⟨by rfl, ?_⟩) (by assumption) ?_
      rotate_left
      · (intro w hSw; (try dsimp only at hSw); go_simp; try with_reducible rfl)
      try simp only [Act.put, List.getElem_toArray, List.getElem_cons_succ, List.getElem_cons_zero, List.setIfInBounds_toArray, List.set_cons_zero, List.set_cons_succ]
      refine wpAnyH_take (i := 2) (v := ?_) rfl (by kernel_rfl) (by kernel_rfl) (by kernel_rfl) (fun _ _ _ h => h) (Or.inl ⟨by rfl, ?_⟩) (by assumption) ?_
      rotate_left
      · (intro w hSw; (try dsimp only at hSw); go_simp; try with_reducible rfl)
      try simp only [Act.put, List.getElem_toArray, List.getElem_cons_succ, List.getElem_cons_zero, List.setIfInBounds_toArray, List.set_cons_zero, List.set_cons_succ]
      refine wpAnyH_take (i := 3) (v := ?_) rfl (by kernel_rfl) (by kernel_rfl) (by kernel_rfl) (fun _ _ _ h => h) (Or.inl ⟨by rfl, ?_⟩) (by assumption) ?_
      rotate_left
      · (intro w hSw; (try dsimp only at hSw); go_simp; try with_reducible rfl)
      try simp only [Act.put, List.getElem_toArray, List.getElem_cons_succ, List.getElem_cons_zero, List.setIfInBounds_toArray, List.set_cons_zero, List.set_cons_succ]
      refine wpAnyH_take (i := 4) (v := ?_) rfl (by kernel_rfl) (by kernel_rfl) (by kernel_rfl) (fun _ _ _ h => h) (Or.inl ⟨by rfl, ?_⟩) (by assumption) ?_
      rotate_left
      · (intro w hSw; (try dsimp only at hSw); go_simp; try with_reducible rfl)
      try simp only [Act.put, List.getElem_toArray, List.getElem_cons_succ, List.getElem_cons_zero, List.setIfInBounds_toArray, List.set_cons_zero, List.set_cons_succ]
      refine wpAnyH_take (i := 5) (v := ?_) rfl (by kernel_rfl) (by kernel_rfl) (by kernel_rfl) (fun _ _ _ h => h) (Or.inl ⟨by rfl, ?_⟩) (by assumption) ?_
      rotate_left
      · (intro w hSw; (try dsimp only at hSw); go_simp; try with_reducible rfl)
      try simp only [Act.put, List.getElem_toArray, List.getElem_cons_succ, List.getElem_cons_zero, List.setIfInBounds_toArray, List.set_cons_zero, List.set_cons_succ]
      refine wpAnyH_take (i := 6) (v := ?_) rfl (by kernel_rfl) (by kernel_rfl) (by kernel_rfl) (fun _ _ _ h => h) (Or.inl ⟨by rfl, ?_⟩) (by assumption) ?_
      rotate_left
      · (intro w hSw; (try dsimp only at hSw); go_simp; try with_reducible rfl)
      try simp only [Act.put, List.getElem_toArray, List.getElem_cons_succ, List.getElem_cons_zero, List.setIfInBounds_toArray, List.set_cons_zero, List.set_cons_succ]
      refine wpAnyH_take (i := 7) (v := ?_) rfl (by kernel_rfl) (by kernel_rfl) (by kernel_rfl) (fun _ _ _ h => h) (Or.inl ⟨by rfl, ?_⟩) (by assumption) ?_
      rotate_left
      · (intro w hSw; (try dsimp only at hSw); go_simp; try with_reducible rfl)
      try simp only [Act.put, List.getElem_toArray, List.getElem_cons_succ, List.getElem_cons_zero, List.setIfInBounds_toArray, List.set_cons_zero, List.set_cons_succ]
      refine wpAnyH_take (i := 8) (v := ?_) rfl (by kernel_rfl) (by kernel_rfl) (by kernel_rfl) (fun _ _ _ h => h) (Or.inl ⟨by rfl, ?_⟩) (by assumption) ?_
      rotate_left
      · (intro w hSw; (try dsimp only at hSw); go_simp; try with_reducible rfl)
      try simp only [Act.put, List.getElem_toArray, List.getElem_cons_succ, List.getElem_cons_zero, List.setIfInBounds_toArray, List.set_cons_zero, List.set_cons_succ]
      refine wpAnyH_take (i := 9) (v := ?_) rfl (by kernel_rfl) (by kernel_rfl) (by kernel_rfl) (fun _ _ _ h => h) (Or.inl ⟨by rfl, ?_⟩) (by assumption) ?_
      rotate_left
      · (intro w hSw; (try dsimp only at hSw); go_simp; try with_reducible rfl)
      try simp only [Act.put, List.getElem_toArray, List.getElem_cons_succ, List.getElem_cons_zero, List.setIfInBounds_toArray, List.set_cons_zero, List.set_cons_succ]
      refine wpAnyH_take (i := 10) (v := ?_) rfl (by kernel_rfl) (by kernel_rfl) (by kernel_rfl) (fun _ _ _ h => h) (Or.inl ⟨by rfl, ?_⟩) (by assumption) ?_
      rotate_left
      · (intro w hSw; (try dsimp only at hSw); go_simp; try with_reducible rfl)
      try simp only [Act.put, List.getElem_toArray, List.getElem_cons_succ, List.getElem_cons_zero, List.setIfInBounds_toArray, List.set_cons_zero, List.set_cons_succ]
      refine wpAnyH_take (i := 11) (v := ?_) rfl (by kernel_rfl) (by kernel_rfl) (by kernel_rfl) (fun _ _ _ h => h) (Or.inl ⟨by rfl, ?_⟩) (by assumption) ?_
      rotate_left
      · (intro w hSw; (try dsimp only at hSw); go_simp; try with_reducible rfl)
      try simp only [Act.put, List.getElem_toArray, List.getElem_cons_succ, List.getElem_cons_zero, List.setIfInBounds_toArray, List.set_cons_zero, List.set_cons_succ]
      refine wpAnyH_take (i := 12) (v := ?_) rfl (by kernel_rfl) (by kernel_rfl) (by kernel_rfl) (fun _ _ _ h => h) (Or.inl ⟨by rfl, ?_⟩) (by assumption) ?_
      rotate_left
      · (intro w hSw; (try dsimp only at hSw); go_simp; try with_reducible rfl)
      try simp only [Act.put, List.getElem_toArray, List.getElem_cons_succ, List.getElem_cons_zero, List.setIfInBounds_toArray, List.set_cons_zero, List.set_cons_succ]
      refine wpAnyH_take (i := 13) (v := ?_) rfl (by kernel_rfl) (by kernel_rfl) (by kernel_rfl) (fun _ _ _ h => h) (Or.inl ⟨by rfl, ?_⟩) (by assumption) ?_
      rotate_left
      · (intro w hSw; (try dsimp only at hSw); go_simp; try with_reducible rfl)
      try simp only [Act.put, List.getElem_toArray, List.getElem_cons_succ, List.getElem_cons_zero, List.setIfInBounds_toArray, List.set_cons_zero, List.set_cons_succ]
      refine wpAnyH_take (i := 14) (v := ?_) rfl (by kernel_rfl) (by kernel_rfl) (by kernel_rfl) (fun _ _ _ h => h) (Or.inl ⟨by rfl, ?_⟩) (by assumption) ?_
      rotate_left
      · (intro w hSw; (try dsimp only at hSw); go_simp; try with_reducible rfl)
      try simp only [Act.put, List.getElem_toArray, List.getElem_cons_succ, List.getElem_cons_zero, List.setIfInBounds_toArray, List.set_cons_zero, List.set_cons_succ]
      refine wpAnyH_take (i := 15) (v := ?_) rfl (by kernel_rfl) (by kernel_rfl) (by kernel_rfl) (fun _ _ _ h => h) (Or.inl ⟨by rfl, ?_⟩) (by assumption) ?_
      rotate_left
      · (intro w hSw; (try dsimp only at hSw); go_simp; try with_reducible rfl)
      try simp only [Act.put, List.getElem_toArray, List.getElem_cons_succ, List.getElem_cons_zero, List.setIfInBounds_toArray, List.set_cons_zero, List.set_cons_succ]
      refine wpAnyH_take (i := 16) (v := ?_) rfl (by kernel_rfl) (by kernel_rfl) (by kernel_rfl) (fun _ _ _ h => h) (Or.inl ⟨by rfl, ?_⟩) (by assumption) ?_
      rotate_left
      · (intro w hSw; (try dsimp only at hSw); go_simp; try with_reducible rfl)
      try simp only [Act.put, List.getElem_toArray, List.getElem_cons_succ, List.getElem_cons_zero, List.setIfInBounds_toArray, List.set_cons_zero, List.set_cons_succ]
      refine wpAnyH_take (i := 17) (v := ?_) rfl (by kernel_rfl) (by kernel_rfl) (by kernel_rfl) (fun _ _ _ h => h) (Or.inl ⟨by rfl, ?_⟩) (by assumption) ?_
      rotate_left
      · (intro w hSw; (try dsimp only at hSw); go_simp; try with_reducible rfl)
      try simp only [Act.put, List.getElem_toArray, List.getElem_cons_succ, List.getElem_cons_zero, List.setIfInBounds_toArray, List.set_cons_zero, List.set_cons_succ]
      refine wpAnyH_ready (rs := [18]) (by kernel_rfl) (by simp) ?_
      refine AllReadyH.cons rfl (fun K hK => ?_) AllReadyH.nil
      have HK4 := Lib.hid hK
      clear hK
      try simp only [List.getElem_toArray, List.getElem_cons_succ, List.getElem_cons_zero]
      go_simp
      (go_at_call 13; go_must (with_reducible refine (HWd.out _ (Frm.Turn.refl [] w8).drew).mono ?_))
      rintro e w9 ⟨rfl, hT⟩
      have Z9 := Lib.hid ((Frm.Turn.refl [] w8).drew.trans hT (by simp))
      clear hT
      refine HK4.out _ _ (HS.out w9 Z9.out) (fun hHeld => ?_)
      clear HK4 K
      try simp only [Act.put, List.getElem_toArray, List.getElem_cons_succ, List.getElem_cons_zero, List.setIfInBounds_toArray, List.set_cons_zero, List.set_cons_succ]
      refine wpAnyH_take (i := 19) (v := ?_) rfl (by kernel_rfl) (by kernel_rfl) (by kernel_rfl) (fun _ _ _ h => h) (Or.inl ⟨by rfl, ?_⟩) (by assumption) ?_
      rotate_left
      · (intro w hSw; (try dsimp only at hSw); go_simp; try with_reducible rfl)
      try simp only [Act.put, List.getElem_toArray, List.getElem_cons_succ, List.getElem_cons_zero, List.setIfInBounds_toArray, List.set_cons_zero, List.set_cons_succ]
      refine wpAnyH_take (i := 20) (v := ?_) rfl (by kernel_rfl) (by kernel_rfl) (by kernel_rfl) (fun _ _ _ h => h) (Or.inl ⟨by rfl, ?_⟩) (by assumption) ?_
      rotate_left
      · (intro w hSw; (try dsimp only at hSw); go_simp; try with_reducible rfl)
      try simp only [Act.put, List.getElem_toArray, List.getElem_cons_succ, List.getElem_cons_zero, List.setIfInBounds_toArray, List.set_cons_zero, List.set_cons_succ]
      refine wpAnyH_take (i := 21) (v := ?_) rfl (by kernel_rfl) (by kernel_rfl) (by kernel_rfl) (fun _ _ _ h => h) (Or.inl ⟨by rfl, ?_⟩) (by assumption) ?_
      rotate_left
      · (intro w hSw; (try dsimp only at hSw); go_simp; try with_reducible rfl)
      try simp only [Act.put, List.getElem_toArray, List.getElem_cons_succ, List.getElem_cons_zero, List.setIfInBounds_toArray, List.set_cons_zero, List.set_cons_succ]
      refine wpAnyH_take (i := 22) (v := ?_) rfl (by kernel_rfl) (by kernel_rfl) (by kernel_rfl) (fun _ _ _ h => h) (Or.inl ⟨by rfl, ?_⟩) (by assumption) ?_
      rotate_left
      · (intro w hSw; (try dsimp only at hSw); go_simp; try with_reducible rfl)
      try simp only [Act.put, List.getElem_toArray, List.getElem_cons_succ, List.getElem_cons_zero, List.setIfInBounds_toArray, List.set_cons_zero, List.set_cons_succ]
      refine wpAnyH_take (i := 24) (v := ?_) rfl (by kernel_rfl) (by kernel_rfl) (by kernel_rfl) (fun _ _ _ h => h) (Or.inl ⟨by rfl, ?_⟩) (by assumption) ?_
      rotate_left
      · (intro w hSw; (try dsimp only at hSw); go_simp; try with_reducible rfl)
      try simp only [Act.put, List.getElem_toArray, List.getElem_cons_succ, List.getElem_cons_zero, List.setIfInBounds_toArray, List.set_cons_zero, List.set_cons_succ]
      refine wpAnyH_ready (rs := [23]) (by kernel_rfl) (by simp) ?_
      refine AllReadyH.cons rfl (fun K hK => ?_) AllReadyH.nil
      have HK4 := Lib.hid hK
      clear hK
      try simp only [List.getElem_toArray, List.getElem_cons_succ, List.getElem_cons_zero]
      go_simp
      (go_at_call 19; go_must (with_reducible refine (HTl.out _ (X.out.trans Z9.out (by simp))).mono ?_))
      rintro e w10 ⟨rfl, hT⟩
      have Z10 := Lib.hid (Z9.out.trans hT (by simp))
      clear hT
      refine HK4.out _ _ (HS.out w10 Z10.out) (fun hHeld => ?_)
      clear HK4 K
      try simp only [Act.put, List.getElem_toArray, List.getElem_cons_succ, List.getElem_cons_zero, List.setIfInBounds_toArray, List.set_cons_zero, List.set_cons_succ]
      refine wpAnyH_take (i := 25) (v := ?_) rfl (by kernel_rfl) (by kernel_rfl) (by kernel_rfl) (fun _ _ _ h => h) (Or.inl ⟨by rfl, ?_⟩) (by assumption) ?_
      rotate_left
      · (intro w hSw; (try dsimp only at hSw); go_simp; try with_reducible rfl)
      try simp only [Act.put, List.getElem_toArray, List.getElem_cons_succ, List.getElem_cons_zero, List.setIfInBounds_toArray, List.set_cons_zero, List.set_cons_succ]
      refine wpAnyH_take (i := 26) (v := ?_) rfl (by kernel_rfl) (by kernel_rfl) (by kernel_rfl) (fun _ _ _ h => h) (Or.inl ⟨by rfl, ?_⟩) (by assumption) ?_
      rotate_left
      · (intro w hSw; (try dsimp only at hSw); go_simp; try with_reducible rfl)
      try simp only [Act.put, List.getElem_toArray, List.getElem_cons_succ, List.getElem_cons_zero, List.setIfInBounds_toArray, List.set_cons_zero, List.set_cons_succ]
      refine wpAnyH_take (i := 27) (v := ?_) rfl (by kernel_rfl) (by kernel_rfl) (by kernel_rfl) (fun _ _ _ h => h) (Or.inl ⟨by rfl, ?_⟩) (by assumption) ?_
      rotate_left
      · (intro w hSw; (try dsimp only at hSw); go_simp; try with_reducible rfl)
      try simp only [Act.put, List.getElem_toArray, List.getElem_cons_succ, List.getElem_cons_zero, List.setIfInBounds_toArray, List.set_cons_zero, List.set_cons_succ]
      refine wpAnyH_take (i := 28) (v := ?_) rfl (by kernel_rfl) (by kernel_rfl) (by kernel_rfl) (fun _ _ _ h => h) (Or.inl ⟨by rfl, ?_⟩) (by assumption) ?_
      rotate_left
      · (intro w hSw; (try dsimp only at hSw); go_simp; try with_reducible rfl)
      try simp only [Act.put, List.getElem_toArray, List.getElem_cons_succ, List.getElem_cons_zero, List.setIfInBounds_toArray, List.set_cons_zero, List.set_cons_succ]
      refine wpAnyH_ready (rs := [29]) (by kernel_rfl) (by simp) ?_
      refine AllReadyH.cons rfl (fun K hK => ?_) AllReadyH.nil
      have HK4 := Lib.hid hK
      clear hK
      try simp only [List.getElem_toArray, List.getElem_cons_succ, List.getElem_cons_zero]
      go_simp
      (go_at_call 23; go_must (with_reducible refine (HFa.out _ (X.out.trans Z10.out (by simp))).mono ?_))
      rintro e w11 ⟨rfl, rfl⟩
      refine HK4.out _ _ (HS.out _ Z10.out) (fun hHeld => ?_)
      clear HK4 K
      try simp only [Act.put, List.getElem_toArray, List.getElem_cons_succ, List.getElem_cons_zero, List.setIfInBounds_toArray, List.set_cons_zero, List.set_cons_succ]
      refine wpAnyH_take (i := 30) (v := ?_) rfl (by kernel_rfl) (by kernel_rfl) (by kernel_rfl) (fun _ _ _ h => h) (Or.inl ⟨by rfl, ?_⟩) (by assumption) ?_
      rotate_left
      · (intro w hSw; (try dsimp only at hSw); go_simp; try with_reducible rfl)
      try simp only [Act.put, List.getElem_toArray, List.getElem_cons_succ, List.getElem_cons_zero, List.setIfInBounds_toArray, List.set_cons_zero, List.set_cons_succ]
      refine wpAnyH_take (i := 31) (v := ?_) rfl (by kernel_rfl) (by kernel_rfl) (by kernel_rfl) (fun _ _ _ h => h) (Or.inl ⟨by rfl, ?_⟩) (by assumption) ?_
      rotate_left
      · (intro w hSw; (try dsimp only at hSw); go_simp; try with_reducible rfl)
      try simp only [Act.put, List.getElem_toArray, List.getElem_cons_succ, List.getElem_cons_zero, List.setIfInBounds_toArray, List.set_cons_zero, List.set_cons_succ]
      refine wpAnyH_take (i := 32) (v := ?_) rfl (by kernel_rfl) (by kernel_rfl) (by kernel_rfl) (fun _ _ _ h => h) (Or.inl ⟨by rfl, ?_⟩) (by assumption) ?_
      rotate_left
      · (intro w hSw; (try dsimp only at hSw); go_simp; try with_reducible rfl)
      try simp only [Act.put, List.getElem_toArray, List.getElem_cons_succ, List.getElem_cons_zero, List.setIfInBounds_toArray, List.set_cons_zero, List.set_cons_succ]
      refine wpAnyH_take (i := 33) (v := ?_) rfl (by kernel_rfl) (by kernel_rfl) (by kernel_rfl) (fun _ _ _ h => h) (Or.inl ⟨by rfl, ?_⟩) (by assumption) ?_
      rotate_left
      · (intro w hSw; (try dsimp only at hSw); go_simp; try with_reducible rfl)
      try simp only [Act.put, List.getElem_toArray, List.getElem_cons_succ, List.getElem_cons_zero, List.setIfInBounds_toArray, List.set_cons_zero, List.set_cons_succ]
      refine wpAnyH_take (i := 34) (v := ?_) rfl (by kernel_rfl) (by kernel_rfl) (by kernel_rfl) (fun _ _ _ h => h) (Or.inl ⟨by rfl, ?_⟩) (by assumption) ?_
      rotate_left
      · (intro w hSw; (try dsimp only at hSw); go_simp; try with_reducible rfl)
      try simp only [Act.put, List.getElem_toArray, List.getElem_cons_succ, List.getElem_cons_zero, List.setIfInBounds_toArray, List.set_cons_zero, List.set_cons_succ]
      refine wpAnyH_take (i := 35) (v := ?_) rfl (by kernel_rfl) (by kernel_rfl) (by kernel_rfl) (fun _ _ _ h => h) (Or.inl ⟨by rfl, ?_⟩) (by assumption) ?_
      rotate_left
      · (intro w hSw; (try dsimp only at hSw); go_simp; try with_reducible rfl)
      try simp only [Act.put, List.getElem_toArray, List.getElem_cons_succ, List.getElem_cons_zero, List.setIfInBounds_toArray, List.set_cons_zero, List.set_cons_succ]
      refine wpAnyH_take (i := 36) (v := ?_) rfl (by kernel_rfl) (by kernel_rfl) (by kernel_rfl) (fun _ _ _ h => h) (Or.inl ⟨by rfl, ?_⟩) (by assumption) ?_
      rotate_left
      · (intro w hSw; (try dsimp only at hSw); go_simp; try with_reducible rfl)
      try simp only [Act.put, List.getElem_toArray, List.getElem_cons_succ, List.getElem_cons_zero, List.setIfInBounds_toArray, List.set_cons_zero, List.set_cons_succ]
      refine wpAnyH_take (i := 37) (v := ?_) rfl (by kernel_rfl) (by kernel_rfl) (by kernel_rfl) (fun _ _ _ h => h) (Or.inl ⟨by rfl, ?_⟩) (by assumption) ?_
      rotate_left
      · (intro w hSw; (try dsimp only at hSw); go_simp; try with_reducible rfl)
      try simp only [Act.put, List.getElem_toArray, List.getElem_cons_succ, List.getElem_cons_zero, List.setIfInBounds_toArray, List.set_cons_zero, List.set_cons_succ]
      refine wpAnyH_take (i := 38) (v := ?_) rfl (by kernel_rfl) (by kernel_rfl) (by kernel_rfl) (fun _ _ _ h => h) (Or.inl ⟨by rfl, ?_⟩) (by assumption) ?_
      rotate_left
      · (intro w hSw; (try dsimp only at hSw); go_simp; try with_reducible rfl)
      try simp only [Act.put, List.getElem_toArray, List.getElem_cons_succ, List.getElem_cons_zero, List.setIfInBounds_toArray, List.set_cons_zero, List.set_cons_succ]
      refine wpAnyH_done (by kernel_rfl) ?_ _
      have HO4 := Lib.hid (Frm.owns_turn HO4.out Z10.out (by simp))
      have HO6 := Lib.hid (Frm.owns_turn HO6.out Z10.out (by simp))
      have HWT := Lib.hid ((HWR.out.trans X.out (by simp)).trans Z10.out (by simp))
      clear eqt
      go_wp2_with fail
      go_loopw [115] (fun i wq => ∃ j : Nat, j ≤ pre.length ∧ i = .int .i64 (j : Int) ∧ Frm.Turn [] w10 wq) (fun i _ => pre.length - (intOf i).toNat)
      case atStart => exact ⟨0, Nat.zero_le _, rfl, Frm.Turn.refl [] _⟩
      case round =>
        obtain ⟨j, hj, rfl, hT⟩ := hrel
        by_cases hlt : j < pre.length
        · obtain ⟨k, s, n, x, hp⟩ : ∃ k s n x, pre[j]? = some (k, (s, n, x)) := ⟨_, _, _, _, List.getElem?_eq_getElem hlt⟩
          obtain ⟨g4, rfl, d0, d1, d2⟩ := row_ent (Frm.owns_turn HO4.out hT (by simp)) hp (by omega)
          obtain ⟨g6, rfl, e0, e1, e2⟩ := row_ent (Frm.owns_turn HO6.out hT (by simp)) hp (by omega)
          have eqe := fun W : World => eq_ent W s n x
          have i1 : (j : Int) < (pre.length : Int) := by omega
          have i0 : (0 : Int) ≤ (j : Int) := by omega
          have i2 : (j : Int) ≤ 1000 := by have := HSH.out; omega
          have HT := Lib.hid hT
          clear hT hp
          go_wp2_with fail
          go_quiet (fail)
          go_wp2
          refine ⟨⟨j + 1, by omega, by simp, by repeat (first | exact HT.out | apply Frm.Turn.drewN | apply Frm.Turn.drew)⟩, ?_⟩
          simp [intOf]; omega
        · obtain rfl : j = pre.length := by omega
          have HT := Lib.hid (HWT.out.trans hT (by simp))
          clear hT
          go_wp2
          go_ret
          exact ⟨rfl, HT.out⟩
end Hed
end Go.Proofs.YtmjdcpcndggflaaDoor
