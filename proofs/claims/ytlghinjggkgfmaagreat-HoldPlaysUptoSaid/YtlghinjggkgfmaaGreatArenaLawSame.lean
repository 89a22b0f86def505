/- The document's Same: two lists of blocks. -/
/- The law's Same: an arena and the document's that stand alike. -/
import Derived.Test.YtlghinjggkgfmaaGreatArenaRefGet
import Derived.Test.YtlghinjggkgfmaaGreatArenaRefAll
import Derived.Test.YtlghinjggkgfmaaGreatArenaBlocks
import Derived.Deep.RegionHeld3
set_option linter.unusedVariables false
set_option linter.unusedSimpArgs false
namespace Go.Proofs.YtlghinjggkgfmaaGreat
namespace Arn
open Go.RowKit Hp Go.Maps

theorem BlksAt.row_at {w : World} {a : Option Addr} {n c : Nat} {l : List RB} (h : BlksAt w (.slice a n c) l) {j : Nat} {y : RB} (hy : l[j]? = some y) :
    ∃ g, a = some ⟨g, 0, none⟩ ∧ w.cell? ⟨g, j * 2, none⟩ = some (.int .u64 y.1.h) ∧ ∃ ya yc, w.cell? ⟨g, j * 2 + 1, none⟩ = some (.slice ya y.1.ws.length yc) ∧ ∀ k x, y.1.ws[k]? = some x → ∃ ad, ya = some ad ∧ w.cell? (ad.add k) = some (.int .u64 x) := by
  obtain ⟨r1, r2⟩ := rbCells_get l j y hy
  rcases h.head with ⟨_, e2⟩ | ⟨g, c', e1, _, _, hc⟩
  · rw [e2] at hy; simp at hy
  · simp only [Value.slice.injEq] at e1
    refine ⟨g, e1.1, hc _ _ r1, ?_⟩
    have hB := hc _ _ r2
    rcases h.rows y (List.mem_of_getElem? hy) with ⟨e3, e4⟩ | ⟨ad, yc, e3, hw⟩
    · exact ⟨none, 0, by rw [hB, e3, e4]; rfl, fun k x hx => by rw [e4] at hx; simp at hx⟩
    · exact ⟨some ad, yc, by rw [hB, e3], fun k x hx => ⟨ad, rfl, hw k _ (by simp [u64s, hx])⟩⟩
theorem take_snoc {l1 l2 : List RB} {j : Nat} {y1 y2 : RB} (h : (l1.take j).map Prod.fst = (l2.take j).map Prod.fst) (h1 : l1[j]? = some y1) (h2 : l2[j]? = some y2) (e : y1.1 = y2.1) : (l1.take (j + 1)).map Prod.fst = (l2.take (j + 1)).map Prod.fst := by
  rw [List.take_add_one, List.take_add_one, h1, h2]
  simp only [Option.toList_some, List.map_append, List.map_cons, List.map_nil, h, e]
theorem apart_at {l1 l2 : List RB} {j : Nat} {y1 y2 : RB} (h1 : l1[j]? = some y1) (h2 : l2[j]? = some y2) (e : y1.1 ≠ y2.1) : ¬ l1.map Prod.fst = l2.map Prod.fst := by
  intro h
  have := congrArg (fun l => l[j]?) h
  simp [h1, h2] at this
  exact e this
set_option maxRecDepth 100000 in
set_option maxHeartbeats 4000000 in
theorem refSame_any (v1 v2 : Value) (l1 l2 : List RB) (w : World) (h1 : BlksAt w v1 l1) (h2 : BlksAt w v2 l2) (hl1 : l1.length ≤ 70000) (hl2 : l2.length ≤ 70000) (hw1 : ∀ x, x ∈ l1 → x.1.ws.length ≤ 70000) (hw2 : ∀ x, x ∈ l2 → x.1.ws.length ≤ 70000) :
    Calls Tryz.prog 88 #[v1, v2] w fun e w' => ∃ b : Bool, e = .returned (.bool b) ∧ (b = true ↔ l1.map Prod.fst = l2.map Prod.fst) ∧ Frm.Turn [] w w' := by
  obtain ⟨a1, c1, rfl⟩ := h1.form
  obtain ⟨a2, c2, rfl⟩ := h2.form
  have H1 := Lib.hid h1
  have H2 := Lib.hid h2
  have HW1 := Lib.hid hw1
  have HW2 := Lib.hid hw2
  obtain ⟨n, HN1⟩ : ∃ n, Hid (n = l1.length) := ⟨_, Lib.hid rfl⟩
  obtain ⟨n2, HN2⟩ : ∃ n, Hid (n = l2.length) := ⟨_, Lib.hid rfl⟩
  rw [← HN1.out] at hl1 ⊢
  rw [← HN2.out] at hl2 ⊢
  clear h1 h2 hw1 hw2
  go_enter Tryz.func88, Tryz.ntmps88
  by_cases hn : n = n2
  case neg =>
    have e1 : ((n : Int) != (n2 : Int)) = true := by simp; omega
    have HNN := Lib.hid hn
    clear hn
    go_wp2_with fail
    go_ret
    refine ⟨false, rfl, ?_, Frm.Turn.refl [] w⟩
    simp only [Bool.false_eq_true, false_iff]
    intro e
    have := congrArg List.length e
    simp only [List.length_map] at this
    exact HNN.out (by rw [HN1.out, HN2.out, this])
  subst hn
  have e1 : ((n : Int) != (n : Int)) = false := by simp
  go_wp2_with fail
  go_loopw [14] (fun i wr => ∃ j : Nat, j ≤ n ∧ i = .int .i64 j ∧ (l1.take j).map Prod.fst = (l2.take j).map Prod.fst ∧ Frm.Turn [] w wr) (fun i _ => n - (intOf i).toNat)
  case atStart => exact ⟨0, Nat.zero_le _, rfl, by simp, Frm.Turn.refl [] w⟩
  case round =>
    obtain ⟨j, hj, rfl, hsame, hT⟩ := hrel
    have HSA := Lib.hid hsame
    have HT := Lib.hid hT
    clear hsame hT
    by_cases hlt : j < n
    · obtain ⟨y1, hy1⟩ : ∃ y, l1[j]? = some y := ⟨_, List.getElem?_eq_getElem (by rw [← HN1.out]; exact hlt)⟩
      obtain ⟨y2, hy2⟩ : ∃ y, l2[j]? = some y := ⟨_, List.getElem?_eq_getElem (by rw [← HN2.out]; exact hlt)⟩
      obtain ⟨g1, rfl, q1, ya1, yc1, p1, r1⟩ := H1.out.row_at hy1
      obtain ⟨g2, rfl, q2, ya2, yc2, p2, r2⟩ := H2.out.row_at hy2
      have HQ1 := Lib.hid q1
      have HQ2 := Lib.hid q2
      have HP1 := Lib.hid p1
      have HP2 := Lib.hid p2
      have HR1 := Lib.hid r1
      have HR2 := Lib.hid r2
      have HY1 := Lib.hid hy1
      have HY2 := Lib.hid hy2
      have m1 := HW1.out y1 (List.mem_of_getElem? hy1)
      have m2 := HW2.out y2 (List.mem_of_getElem? hy2)
      clear q1 q2 p1 p2 r1 r2 hy1 hy2
      have cA1 := HT.out.cell HQ1.out (by simp)
      have cA2 := HT.out.cell HQ2.out (by simp)
      have cB1 := HT.out.cell HP1.out (by simp)
      have cB2 := HT.out.cell HP2.out (by simp)
      obtain ⟨k1, HK1⟩ : ∃ k, Hid (k = y1.1.h) := ⟨_, Lib.hid rfl⟩
      obtain ⟨k2, HK2⟩ : ∃ k, Hid (k = y2.1.h) := ⟨_, Lib.hid rfl⟩
      obtain ⟨t1, HT1⟩ : ∃ k, Hid (k = y1.1.ws.length) := ⟨_, Lib.hid rfl⟩
      obtain ⟨t2, HT2⟩ : ∃ k, Hid (k = y2.1.ws.length) := ⟨_, Lib.hid rfl⟩
      rw [← HK1.out] at cA1
      rw [← HK2.out] at cA2
      rw [← HT1.out] at cB1 m1
      rw [← HT2.out] at cB2 m2
      rw [← HT1.out] at HP1
      rw [← HT2.out] at HP2
      by_cases hk : k1 = k2
      case neg =>
        have ek : (k1 != k2) = true := by simpa using hk
        have HNE := Lib.hid hk
        clear hk
        go_upto_region 6 with fail
        go_region
        go_wp2_with fail
        go_ret
        refine ⟨false, rfl, ?_, by repeat (first | exact HT.out | apply Frm.Turn.drewN | apply Frm.Turn.drew | apply Frm.Turn.alloc)⟩
        simp only [Bool.false_eq_true, false_iff]
        exact apart_at HY1.out HY2.out (fun e => HNE.out (by rw [HK1.out, HK2.out, e]))
      have ek : (k1 != k2) = false := by simpa using hk
      have HKK := Lib.hid hk
      clear hk
      by_cases ht : t1 = t2
      case neg =>
        have et : ((t1 : Int) != (t2 : Int)) = true := by simp; omega
        have HNE := Lib.hid ht
        clear ht
        go_upto_region 6 with fail
        go_region
        go_wp2_with fail
        go_ret
        refine ⟨false, rfl, ?_, by repeat (first | exact HT.out | apply Frm.Turn.drewN | apply Frm.Turn.drew | apply Frm.Turn.alloc)⟩
        simp only [Bool.false_eq_true, false_iff]
        exact apart_at HY1.out HY2.out (fun e => HNE.out (by rw [HT1.out, HT2.out, e]))
      subst ht
      have et : ((t1 : Int) != (t1 : Int)) = false := by simp
      go_upto_region 6 with fail
      go_region
      go_wp2_with fail
      go_loopw [49] (fun i wz => ∃ q : Nat, q ≤ t1 ∧ i = .int .i64 q ∧ y1.1.ws.take q = y2.1.ws.take q ∧ Frm.Turn [] w wz) (fun i _ => t1 - (intOf i).toNat)
      case atStart => exact ⟨0, Nat.zero_le _, rfl, by simp, by repeat (first | exact HT.out | apply Frm.Turn.drewN | apply Frm.Turn.drew | apply Frm.Turn.alloc)⟩
      case round =>
        obtain ⟨q, hq, rfl, hws, hTz⟩ := hrel
        have HWS := Lib.hid hws
        have HTZ := Lib.hid hTz
        clear hws hTz cA1 cA2 cB1 cB2
        by_cases hqt : q < t1
        · obtain ⟨x1, hx1⟩ : ∃ x, y1.1.ws[q]? = some x := ⟨_, List.getElem?_eq_getElem (by rw [← HT1.out]; exact hqt)⟩
          obtain ⟨x2, hx2⟩ : ∃ x, y2.1.ws[q]? = some x := ⟨_, List.getElem?_eq_getElem (by rw [← HT2.out]; exact hqt)⟩
          obtain ⟨ad1, rfl, w1⟩ := HR1.out q x1 hx1
          obtain ⟨ad2, rfl, w2⟩ := HR2.out q x2 hx2
          have cB1 := HTZ.out.cell HP1.out (by simp)
          have cB2 := HTZ.out.cell HP2.out (by simp)
          have cW1 := HTZ.out.cell w1 (by simp)
          have cW2 := HTZ.out.cell w2 (by simp)
          have HX1 := Lib.hid hx1
          have HX2 := Lib.hid hx2
          clear w1 w2 hx1 hx2
          by_cases hx : x1 = x2
          · have ex : (x1 != x2) = false := by simpa using hx
            have HXX := Lib.hid hx
            clear hx
            go_upto_region 11 with fail
            go_region
            go_wp2_with fail
            go_roundw
            case rel => exact ⟨q + 1, by omega, by simp, by rw [List.take_add_one, List.take_add_one, HX1.out, HX2.out, HWS.out, HXX.out], by repeat (first | exact HTZ.out | apply Frm.Turn.drewN | apply Frm.Turn.drew | apply Frm.Turn.alloc)⟩
            case measure => simp [intOf]; omega
          · have ex : (x1 != x2) = true := by simpa using hx
            have HXX := Lib.hid hx
            clear hx
            go_upto_region 11 with fail
            go_region
            go_wp2_with fail
            go_ret
            refine ⟨false, rfl, ?_, by repeat (first | exact HTZ.out | apply Frm.Turn.drewN | apply Frm.Turn.drew | apply Frm.Turn.alloc)⟩
            simp only [Bool.false_eq_true, false_iff]
            exact apart_at HY1.out HY2.out (fun e => HXX.out (by have h1 := HX1.out; have h2 := HX2.out; rw [e, h2] at h1; exact (Option.some.inj h1).symm))
        · obtain rfl : q = t1 := by omega
          have HEQ : Hid (y1.1 = y2.1) := Lib.hid (by
            have h1 := HWS.out
            rw [show y1.1.ws.take q = y1.1.ws from by rw [HT1.out, List.take_length], show y2.1.ws.take q = y2.1.ws from by rw [HT2.out, List.take_length]] at h1
            have h2 : y1.1.h = y2.1.h := by rw [← HK1.out, ← HK2.out, HKK.out]
            cases hz1 : y1.1
            cases hz2 : y2.1
            rw [hz1, hz2] at h1 h2
            simp at h1 h2
            rw [h1, h2])
          go_wp2_with fail
          go_roundw
          case rel => exact ⟨j + 1, by omega, by simp, take_snoc HSA.out HY1.out HY2.out HEQ.out, by repeat (first | exact HTZ.out | apply Frm.Turn.drewN | apply Frm.Turn.drew | apply Frm.Turn.alloc)⟩
          case measure => simp [intOf]; omega
    · obtain rfl : j = n := by omega
      go_wp2_with fail
      go_ret
      refine ⟨true, rfl, ?_, HT.out⟩
      have h1 := HSA.out
      rw [show l1.take j = l1 from by rw [HN1.out, List.take_length], show l2.take j = l2 from by rw [HN2.out, List.take_length]] at h1
      simp [h1]
end Arn
end Go.Proofs.YtlghinjggkgfmaaGreat

set_option linter.unusedVariables false
set_option linter.unusedSimpArgs false
namespace Go.Proofs.YtlghinjggkgfmaaGreat
namespace Arn
open Go.RowKit Hp Go.Maps

def asRB (y : Got) : RB := (y.1, .slice (some ⟨y.2.1, 0, none⟩) y.1.ws.length y.2.2)
theorem got_cells (ys : List Got) : rbCells (ys.map asRB) = gotCells ys := by simp [rbCells, gotCells, asRB, List.flatMap_map]
theorem got_blks {w : World} {v : Value} {ys : List Got} (ho : w.ownsRow 0 182 2 v ys.length (gotCells ys)) (hr : ∀ y, y ∈ ys → HasRow w y) : BlksAt w v (ys.map asRB) := by
  refine BlksAt.of_row (fun z hz => ?_) (by rw [List.length_map, got_cells]; exact ho) (Frm.Turn.refl [] w) (by simp)
  obtain ⟨y, hy, rfl⟩ := List.mem_map.1 hz
  exact WordsAt.own (hr y hy)
theorem got_fst (ys : List Got) : (ys.map asRB).map Prod.fst = ys.map Prod.fst := by simp [asRB, Function.comp_def]
set_option maxRecDepth 100000 in
set_option maxHeartbeats 8000000 in
theorem lawSame_any {w : World} {b : Nat} {M : Mem} {A : Ar} (h : ArAt w b M A) (u : Value) (G : List Nat) (hr : RefS w A u G) :
    Calls Tryz.prog 34 #[.pointer (some ⟨b, 0, none⟩), u] w fun e w' => e = .returned (.int .i64 1) ∧ Frm.Turn [] w w' := by
  obtain ⟨f0, f1, f2, f3, f4, f5, f6, f7, f8, hfix, v, l, rfl, hAL, hB, rfl⟩ := hr
  obtain ⟨va, vc, rfl⟩ := hB.form
  obtain ⟨fs, hfs⟩ := struct_of under_refA
  have HB := Lib.hid hB
  have HAL := Lib.hid hAL
  have HAT0 := Lib.hid h
  have HOK := Lib.hid h.ok
  have HLN := Lib.hid (len_of h.ok hAL)
  have HWD : Hid (∀ W, Frm.Turn [] w W → Calls Tryz.prog 87 #[.pointer (some ⟨b, 0, none⟩)] W (CloneOf W [f0, f1, f2, f3, f4, f5, f6, f7, f8])) := Lib.hid fun W hT => by have := words_any (h.step hT); rwa [hfix] at this
  obtain ⟨CS, HCS⟩ : ∃ CS, Hid (CS = refCells A f0 f1 f2 f3 f4 f5 f6 f7 f8 (.slice va l.length vc)) := ⟨_, Lib.hid rfl⟩
  have HSZCS : Hid (CS.size = 20) := Lib.hid (by rw [HCS.out]; rfl)
  have HFS := Lib.hid hfs
  obtain ⟨q, HQ⟩ : ∃ q, Hid (q = l.length) := ⟨_, Lib.hid rfl⟩
  rw [show refCells A f0 f1 f2 f3 f4 f5 f6 f7 f8 (.slice va l.length vc) = CS from HCS.out.symm]
  clear h hfs hAL hB hfix
  go_enter Tryz.func34, Tryz.ntmps34
  go_upto_region 1 with fail
  have hbx := World.alloc_heap_new w (.cells CS 67)
  have hT0 : Frm.Turn [] w (w.alloc (.cells CS 67)) := (Frm.Turn.refl [] w).alloc _
  obtain ⟨bx, Hx⟩ : ∃ bx, Hid (bx = w.heap.size) := ⟨_, Lib.hid rfl⟩
  rw [← Hx.out] at hbx ⊢
  generalize w.alloc (.cells CS 67) = W1 at hbx hT0 ⊢
  have HBX := Lib.hid hbx
  have HT0 := Lib.hid hT0
  clear hbx hT0
  go_wp2_with (first
    | (go_at_call 87; (with_reducible refine (HWD.out _ HT0.out).mono ?_); rintro e W2 ⟨g9, c9, rfl, hw9, _, hT⟩; have HW9 := Lib.hid hw9; have HT2 := Lib.hid hT; have HBX2 := Lib.hid (hT.keep HBX.out (by simp)); clear hw9 hT; simp only [List.length_cons, List.length_nil]))
  go_loopw [14] (fun i wr => ∃ j : Nat, j ≤ 9 ∧ i = .int .i64 j ∧ Frm.Turn [] W2 wr) (fun i _ => 9 - (intOf i).toNat)
  case atStart => exact ⟨0, Nat.zero_le _, rfl, Frm.Turn.refl [] _⟩
  case round =>
    obtain ⟨j, hj, rfl, hT⟩ := hrel
    have HT := Lib.hid hT
    clear hT
    by_cases hlt : j < 9
    · obtain ⟨x, HX⟩ : ∃ x, Hid (x = [f0, f1, f2, f3, f4, f5, f6, f7, f8].getD j 0) := ⟨_, Lib.hid rfl⟩
      have cW : wr.cell? ⟨g9, j, none⟩ = some (.int .u64 x) := HT.out.cell (by rw [HW9.out.cellAt j (by simpa using hlt), HX.out]; exact word_at (by simpa using hlt)) (by simp)
      have cF : wr.cell? ⟨bx, 4 + j, none⟩ = some (.int .u64 x) := HT.out.cell (by rw [Frm.cell_row _ _ _ _ _ _ HBX2.out, HCS.out, HX.out]; exact fix_cell A f0 f1 f2 f3 f4 f5 f6 f7 f8 _ _ _ (word_at (by simpa using hlt))) (by simp)
      go_upto_region 7 with fail
      go_region
      go_wp2_with fail
      go_roundw
      case rel => exact ⟨j + 1, by omega, by simp, by repeat (first | exact HT.out | apply Frm.Turn.drewN | apply Frm.Turn.drew | apply Frm.Turn.alloc)⟩
      case measure => simp [intOf]; omega
    · obtain rfl : j = 9 := by omega
      go_upto_region 10 with fail
      have hTw : Frm.Turn [] w wr := (HT0.out.trans HT2.out (by simp)).trans HT.out (by simp)
      have HAT : Hid (∀ W, Frm.Turn [] wr W → ArAt W b M A) := Lib.hid fun W hT => HAT0.out.step (hTw.trans hT (by simp))
      have HEND : Hid (∀ W, Frm.Turn [] wr W → Frm.Turn [] w W) := Lib.hid fun W hT => hTw.trans hT (by simp)
      have HBX3 := Lib.hid (HT.out.keep HBX2.out (by simp))
      have HI20 : Hid ((Tryz.prog.info? 67).map (·.size) = some CS.toList.length) := Lib.hid (by rw [Array.length_toList, HSZCS.out]; exact info_refA)
      have HS : Hid (∀ W, Frm.Turn [] wr W → (fun w' => w'.rangeAt bx 0 CS.toList ∧ w'.cell? ⟨bx, 0, none⟩ = some (.int .i64 A.cap) ∧ w'.cell? ⟨bx, 2, none⟩ = some (.int .i64 A.peak) ∧ w'.cell? ⟨bx, 3, none⟩ = some (.int .i64 A.faults) ∧ w'.cell? ⟨bx, 13, none⟩ = some (.slice va l.length vc) ∧ w'.cell? ⟨bx, 14, none⟩ = some (.int .i64 A.t.lays) ∧ w'.cell? ⟨bx, 15, none⟩ = some (.int .i64 A.t.frees) ∧ w'.cell? ⟨bx, 16, none⟩ = some (.int .i64 A.t.reads) ∧ w'.cell? ⟨bx, 17, none⟩ = some (.int .i64 A.t.writes) ∧ w'.cell? ⟨bx, 18, none⟩ = some (.int .i64 A.t.swaps) ∧ w'.cell? ⟨bx, 19, none⟩ = some (.int .i64 A.t.adds)) W) := Lib.hid fun W hT => by
        have hb := hT.keep HBX3.out (by simp)
        have hc : ∀ k, W.cell? ⟨bx, k, none⟩ = (refCells A f0 f1 f2 f3 f4 f5 f6 f7 f8 (.slice va l.length vc))[k]? := fun k => by rw [Frm.cell_row _ _ _ _ _ _ hb, HCS.out]
        refine ⟨fun j u hu => ?_, hc 0, hc 2, hc 3, hc 13, hc 14, hc 15, hc 16, hc 17, hc 18, hc 19⟩
        rw [Nat.zero_add, Frm.cell_row _ _ _ _ _ _ hb]
        simpa using hu
      have HTc : Hid (Frm.Turn [] wr wr.drew) := Lib.hid (Frm.Turn.refl [] wr).drew
      have HBLK : Hid (∀ W, Frm.Turn [] wr W → Calls Tryz.prog 89 #[.pointer (some ⟨b, 0, none⟩), .int .i64 100000] W fun e w' => ∃ v1 l1, e = .returned v1 ∧ BlksAt w' v1 l1 ∧ l1.map Prod.fst = A.L ∧ Frm.Turn [] W w') := Lib.hid fun W hT => by
        refine (blocks_any (HAT.out W hT) 100000).mono ?_
        rintro e w' ⟨v, ys, rfl, ho, hy, hrw, hT'⟩
        refine ⟨v, _, rfl, got_blks (ownsRow_zero ho) hrw, ?_, hT'⟩
        rw [got_fst, hy]
        refine List.take_of_length_le ?_
        have h1 := HLN.out
        have h2 := congrArg List.length HAL.out
        simp at h2
        simp; omega
      have hlow : ∀ y, y ∈ l → y.1.ws.length ≤ 70000 := fun y hy => by
        have := (HOK.out.len y.1 (by rw [← HAL.out]; exact List.mem_map_of_mem hy)).2
        omega
      have HLOW := Lib.hid hlow
      have HSM : Hid (∀ W v1 l1, Frm.Turn [] wr W → BlksAt W v1 l1 → l1.map Prod.fst = A.L → Calls Tryz.prog 88 #[v1, .slice va l.length vc] W fun e w' => e = .returned (.bool true) ∧ Frm.Turn [] W w') := Lib.hid fun W v1 l1 hT hb1 hl1 => by
        have hn1 := len_of HOK.out hl1
        have hn2 := HLN.out
        refine (refSame_any v1 _ l1 l W hb1 (HB.out.step (HEND.out W hT)) (by omega) (by omega) (fun y hy => ?_) HLOW.out).mono ?_
        · have := (HOK.out.len y.1 (by rw [← hl1]; exact List.mem_map_of_mem hy)).2
          omega
        · rintro e w' ⟨b, rfl, hb, hT'⟩
          rw [hb.2 (by rw [hl1, HAL.out])]
          exact ⟨rfl, hT'⟩
      have HRU : Hid (∀ W, Frm.Turn [] wr W → Calls Tryz.prog 92 #[.agg CS] W fun e w' => e = .returned (.int .i64 (used A.L : Int)) ∧ Frm.Turn [] W w') := Lib.hid fun W hT => by
        have hu : used (l.map Prod.fst) ≤ 60000 := by
          have u2 := HOK.out.top
          have u3 := HOK.out.peak
          have u4 := HOK.out.cap
          rw [HAL.out]; omega
        have := refUsed_any A f0 f1 f2 f3 f4 f5 f6 f7 f8 (.slice va l.length vc) l W (HB.out.step (HEND.out W hT)) (by have := HLN.out; omega) (by omega) HLOW.out
        rwa [HAL.out, ← HCS.out] at this
      have HCP : Hid (∀ W, Frm.Turn [] wr W → Calls Tryz.prog 90 #[.pointer (some ⟨b, 0, none⟩)] W fun e w' => e = .returned (.int .i64 (A.cap : Int)) ∧ Frm.Turn [] W w') := Lib.hid fun W hT => (cap_any (HAT.out W hT)).mono fun e w' ⟨h1, h2⟩ => ⟨h1, h2 ▸ Frm.Turn.refl [] W⟩
      have HUS : Hid (∀ W, Frm.Turn [] wr W → Calls Tryz.prog 91 #[.pointer (some ⟨b, 0, none⟩)] W fun e w' => e = .returned (.int .i64 (used A.L : Int)) ∧ Frm.Turn [] W w') := Lib.hid fun W hT => (used_any (HAT.out W hT)).mono fun e w' ⟨h1, h2⟩ => ⟨h1, h2 ▸ Frm.Turn.refl [] W⟩
      have HPK : Hid (∀ W, Frm.Turn [] wr W → Calls Tryz.prog 93 #[.pointer (some ⟨b, 0, none⟩)] W fun e w' => e = .returned (.int .i64 (A.peak : Int)) ∧ Frm.Turn [] W w') := Lib.hid fun W hT => (peak_any (HAT.out W hT)).mono fun e w' ⟨h1, h2⟩ => ⟨h1, h2 ▸ Frm.Turn.refl [] W⟩
      have HFT : Hid (∀ W, Frm.Turn [] wr W → Calls Tryz.prog 36 #[.pointer (some ⟨b, 0, none⟩)] W fun e w' => e = .returned (.int .i64 (A.faults : Int)) ∧ Frm.Turn [] W w') := Lib.hid fun W hT => (faults_any (HAT.out W hT)).mono fun e w' ⟨h1, h2⟩ => ⟨h1, h2 ▸ Frm.Turn.refl [] W⟩
      have HLE : Hid (∀ W, Frm.Turn [] wr W → Calls Tryz.prog 59 #[.pointer (some ⟨b, 0, none⟩)] W fun e w' => e = .returned (.int .i64 (l.length : Int)) ∧ Frm.Turn [] W w') := Lib.hid fun W hT => (len_any (HAT.out W hT)).mono fun e w' ⟨h1, h2⟩ => ⟨by rw [h1, ← HAL.out, List.length_map], h2 ▸ Frm.Turn.refl [] W⟩
      have HTA : Hid (∀ W, Frm.Turn [] wr W → Calls Tryz.prog 94 #[.pointer (some ⟨b, 0, none⟩)] W fun e w' => e = .returned (.agg #[.int .i64 (A.t.lays : Int), .int .i64 (A.t.frees : Int), .int .i64 (A.t.reads : Int), .int .i64 (A.t.writes : Int), .int .i64 (A.t.swaps : Int), .int .i64 (A.t.adds : Int)]) ∧ Frm.Turn [] W w') := Lib.hid fun W hT => tally_any (HAT.out W hT)
      clear hlow hTw
      refine wp_region_held_drew (S := fun w' => w'.rangeAt bx 0 CS.toList ∧ w'.cell? ⟨bx, 0, none⟩ = some (.int .i64 A.cap) ∧ w'.cell? ⟨bx, 2, none⟩ = some (.int .i64 A.peak) ∧ w'.cell? ⟨bx, 3, none⟩ = some (.int .i64 A.faults) ∧ w'.cell? ⟨bx, 13, none⟩ = some (.slice va l.length vc) ∧ w'.cell? ⟨bx, 14, none⟩ = some (.int .i64 A.t.lays) ∧ w'.cell? ⟨bx, 15, none⟩ = some (.int .i64 A.t.frees) ∧ w'.cell? ⟨bx, 16, none⟩ = some (.int .i64 A.t.reads) ∧ w'.cell? ⟨bx, 17, none⟩ = some (.int .i64 A.t.writes) ∧ w'.cell? ⟨bx, 18, none⟩ = some (.int .i64 A.t.swaps) ∧ w'.cell? ⟨bx, 19, none⟩ = some (.int .i64 A.t.adds)) (by kernel_rfl) ?_ (fun hHeld => ?_)
      · exact HS.out _ HTc.out
      refine wpAnyH_take (i := 0) (v := ?_) rfl (by kernel_rfl) (by kernel_rfl) (by kernel_rfl) (fun _ _ _ h => h) (Or.inl ⟨by rfl, ?_⟩) (by assumption) ?_
      rotate_left
      · (intro w hSw; (try dsimp only at hSw); go_simp; try with_reducible rfl)
      simp only [Act.put, List.getElem_toArray, List.getElem_cons_succ, List.getElem_cons_zero, List.setIfInBounds_toArray, List.set_cons_zero, List.set_cons_succ]
      refine wpAnyH_take (i := 2) (v := ?_) rfl (by kernel_rfl) (by kernel_rfl) (by kernel_rfl) (fun _ _ _ h => h) (Or.inl ⟨by rfl, ?_⟩) (by assumption) ?_
      rotate_left
      · (intro w hSw; (try dsimp only at hSw); go_simp; try with_reducible rfl)
      simp only [Act.put, List.getElem_toArray, List.getElem_cons_succ, List.getElem_cons_zero, List.setIfInBounds_toArray, List.set_cons_zero, List.set_cons_succ]
      refine wpAnyH_take (i := 3) (v := ?_) rfl (by kernel_rfl) (by kernel_rfl) (by kernel_rfl) (fun _ _ _ h => h) (Or.inl ⟨by rfl, ?_⟩) (by assumption) ?_
      rotate_left
      · (intro w hSw; (try dsimp only at hSw); go_simp; try with_reducible rfl)
      simp only [Act.put, List.getElem_toArray, List.getElem_cons_succ, List.getElem_cons_zero, List.setIfInBounds_toArray, List.set_cons_zero, List.set_cons_succ]
      refine wpAnyH_ready (rs := [1]) (by kernel_rfl) (by simp) ?_
      refine AllReadyH.cons rfl (fun K hK => ?_) AllReadyH.nil
      try simp only [List.getElem_toArray, List.getElem_cons_succ, List.getElem_cons_zero]
      go_simp
      go_at_call 89; (with_reducible refine (HBLK.out _ HTc.out).mono ?_); rintro e wn ⟨v1, l1, rfl, hbk, hys, hTn⟩; have HBK := Lib.hid hbk; have HYS := Lib.hid hys; have HTc := Lib.hid (HTc.out.trans hTn (by simp)); clear hbk hys hTn
      try go_wp2_with fail
      refine hK _ _ (HS.out _ HTc.out) (fun hHeld => ?_)
      clear hK K
      try simp only [Act.put, List.getElem_toArray, List.getElem_cons_succ, List.getElem_cons_zero, List.setIfInBounds_toArray, List.set_cons_zero, List.set_cons_succ]
      refine wpAnyH_ready (rs := [4]) (by kernel_rfl) (by simp) ?_
      refine AllReadyH.cons rfl (fun K hK => ?_) AllReadyH.nil
      try simp only [List.getElem_toArray, List.getElem_cons_succ, List.getElem_cons_zero]
      go_simp
      go_at_call 88; (with_reducible refine (HSM.out _ _ _ HTc.out HBK.out HYS.out).mono ?_); rintro e wn ⟨rfl, hTn⟩; have HTc := Lib.hid (HTc.out.trans hTn (by simp)); clear hTn
      try go_wp2_with fail
      refine hK _ _ (HS.out _ HTc.out) (fun hHeld => ?_)
      clear hK K
      try simp only [Act.put, List.getElem_toArray, List.getElem_cons_succ, List.getElem_cons_zero, List.setIfInBounds_toArray, List.set_cons_zero, List.set_cons_succ]
      refine wpAnyH_take (i := 5) (v := ?_) rfl (by kernel_rfl) (by kernel_rfl) (by kernel_rfl) (fun _ _ _ h => h) (Or.inl ⟨by rfl, ?_⟩) (by assumption) ?_
      rotate_left
      · (intro w hSw; (try dsimp only at hSw); go_simp; try with_reducible rfl)
      simp only [Act.put, List.getElem_toArray, List.getElem_cons_succ, List.getElem_cons_zero, List.setIfInBounds_toArray, List.set_cons_zero, List.set_cons_succ]
      refine wpAnyH_take (i := 6) (v := ?_) rfl (by kernel_rfl) (by kernel_rfl) (by kernel_rfl) (fun _ _ _ h => h) (Or.inl ⟨by rfl, ?_⟩) (by assumption) ?_
      rotate_left
      · (intro w hSw; (try dsimp only at hSw); go_simp; try with_reducible rfl)
      simp only [Act.put, List.getElem_toArray, List.getElem_cons_succ, List.getElem_cons_zero, List.setIfInBounds_toArray, List.set_cons_zero, List.set_cons_succ]
      refine wpAnyH_take (i := 7) (v := ?_) rfl (by kernel_rfl) (by kernel_rfl) (by kernel_rfl) (fun _ _ _ h => h) (Or.inl ⟨by rfl, ?_⟩) (by assumption) ?_
      rotate_left
      · (intro w hSw; (try dsimp only at hSw); go_simp; try with_reducible rfl)
      simp only [Act.put, List.getElem_toArray, List.getElem_cons_succ, List.getElem_cons_zero, List.setIfInBounds_toArray, List.set_cons_zero, List.set_cons_succ]
      refine wpAnyH_take (i := 9) (v := ?_) rfl (by kernel_rfl) (by kernel_rfl) (by kernel_rfl) (fun _ _ _ h => h) (Or.inl ⟨by rfl, ?_⟩) (by assumption) ?_
      rotate_left
      · (intro w hSw; (try dsimp only at hSw); go_simp; try with_reducible rfl)
      simp only [Act.put, List.getElem_toArray, List.getElem_cons_succ, List.getElem_cons_zero, List.setIfInBounds_toArray, List.set_cons_zero, List.set_cons_succ]
      refine wpAnyH_take (i := 10) (v := ?_) rfl (by kernel_rfl) (by kernel_rfl) (by kernel_rfl) (fun _ _ _ h => h) (Or.inl ⟨by rfl, ?_⟩) (by assumption) ?_
      rotate_left
      · (intro w hSw; (try dsimp only at hSw); go_simp; try with_reducible rfl)
      simp only [Act.put, List.getElem_toArray, List.getElem_cons_succ, List.getElem_cons_zero, List.setIfInBounds_toArray, List.set_cons_zero, List.set_cons_succ]
      refine wpAnyH_ready (rs := [8]) (by kernel_rfl) (by simp) ?_
      refine AllReadyH.cons rfl (fun K hK => ?_) AllReadyH.nil
      try simp only [List.getElem_toArray, List.getElem_cons_succ, List.getElem_cons_zero]
      go_simp
      go_at_call 90; (with_reducible refine (HCP.out _ HTc.out).mono ?_); rintro e wn ⟨rfl, hTn⟩; have HTc := Lib.hid (HTc.out.trans hTn (by simp)); clear hTn
      try go_wp2_with fail
      refine hK _ _ (HS.out _ HTc.out) (fun hHeld => ?_)
      clear hK K
      try simp only [Act.put, List.getElem_toArray, List.getElem_cons_succ, List.getElem_cons_zero, List.setIfInBounds_toArray, List.set_cons_zero, List.set_cons_succ]
      refine wpAnyH_take (i := 11) (v := ?_) rfl (by kernel_rfl) (by kernel_rfl) (by kernel_rfl) (fun _ _ _ h => h) (Or.inl ⟨by rfl, ?_⟩) (by assumption) ?_
      rotate_left
      · (intro w hSw; (try dsimp only at hSw); go_simp; try with_reducible rfl)
      simp only [Act.put, List.getElem_toArray, List.getElem_cons_succ, List.getElem_cons_zero, List.setIfInBounds_toArray, List.set_cons_zero, List.set_cons_succ]
      refine wpAnyH_take (i := 12) (v := ?_) rfl (by kernel_rfl) (by kernel_rfl) (by kernel_rfl) (fun _ _ _ h => h) (Or.inl ⟨by rfl, ?_⟩) (by assumption) ?_
      rotate_left
      · (intro w hSw; (try dsimp only at hSw); go_simp; try with_reducible rfl)
      simp only [Act.put, List.getElem_toArray, List.getElem_cons_succ, List.getElem_cons_zero, List.setIfInBounds_toArray, List.set_cons_zero, List.set_cons_succ]
      refine wpAnyH_take (i := 13) (v := ?_) rfl (by kernel_rfl) (by kernel_rfl) (by kernel_rfl) (fun _ _ _ h => h) (Or.inl ⟨by rfl, ?_⟩) (by assumption) ?_
      rotate_left
      · (intro w hSw; (try dsimp only at hSw); go_simp; try with_reducible rfl)
      simp only [Act.put, List.getElem_toArray, List.getElem_cons_succ, List.getElem_cons_zero, List.setIfInBounds_toArray, List.set_cons_zero, List.set_cons_succ]
      refine wpAnyH_take (i := 14) (v := ?_) rfl (by kernel_rfl) (by kernel_rfl) (by kernel_rfl) (fun _ _ _ h => h) (Or.inl ⟨by rfl, ?_⟩) (by assumption) ?_
      rotate_left
      · (intro w hSw; (try dsimp only at hSw); go_simp; try with_reducible rfl)
      simp only [Act.put, List.getElem_toArray, List.getElem_cons_succ, List.getElem_cons_zero, List.setIfInBounds_toArray, List.set_cons_zero, List.set_cons_succ]
      refine wpAnyH_take (i := 16) (v := _) rfl (by kernel_rfl) (by kernel_rfl) (by kernel_rfl) (fun _ _ _ h => h)
              (yieldsIf_load_mid (by rfl) _ _ rfl bx 0 rfl CS.toList _ (fun w hw => hw.1) HFS.out rfl HI20.out) (by assumption) ?_
      simp only [Act.put, List.setIfInBounds_toArray, List.set_cons_zero, List.set_cons_succ, Array.toArray_toList]
      refine wpAnyH_ready (rs := [15]) (by kernel_rfl) (by simp) ?_
      refine AllReadyH.cons rfl (fun K hK => ?_) AllReadyH.nil
      try simp only [List.getElem_toArray, List.getElem_cons_succ, List.getElem_cons_zero]
      go_simp
      go_at_call 91; (with_reducible refine (HUS.out _ HTc.out).mono ?_); rintro e wn ⟨rfl, hTn⟩; have HTc := Lib.hid (HTc.out.trans hTn (by simp)); clear hTn
      try go_wp2_with fail
      refine hK _ _ (HS.out _ HTc.out) (fun hHeld => ?_)
      clear hK K
      try simp only [Act.put, List.getElem_toArray, List.getElem_cons_succ, List.getElem_cons_zero, List.setIfInBounds_toArray, List.set_cons_zero, List.set_cons_succ]
      refine wpAnyH_ready (rs := [17]) (by kernel_rfl) (by simp) ?_
      refine AllReadyH.cons rfl (fun K hK => ?_) AllReadyH.nil
      try simp only [List.getElem_toArray, List.getElem_cons_succ, List.getElem_cons_zero]
      go_simp
      go_at_call 92; (with_reducible refine (HRU.out _ HTc.out).mono ?_); rintro e wn ⟨rfl, hTn⟩; have HTc := Lib.hid (HTc.out.trans hTn (by simp)); clear hTn
      try go_wp2_with fail
      refine hK _ _ (HS.out _ HTc.out) (fun hHeld => ?_)
      clear hK K
      try simp only [Act.put, List.getElem_toArray, List.getElem_cons_succ, List.getElem_cons_zero, List.setIfInBounds_toArray, List.set_cons_zero, List.set_cons_succ]
      refine wpAnyH_take (i := 18) (v := ?_) rfl (by kernel_rfl) (by kernel_rfl) (by kernel_rfl) (fun _ _ _ h => h) (Or.inl ⟨by rfl, ?_⟩) (by assumption) ?_
      rotate_left
      · (intro w hSw; (try dsimp only at hSw); go_simp; try with_reducible rfl)
      simp only [Act.put, List.getElem_toArray, List.getElem_cons_succ, List.getElem_cons_zero, List.setIfInBounds_toArray, List.set_cons_zero, List.set_cons_succ]
      refine wpAnyH_take (i := 19) (v := ?_) rfl (by kernel_rfl) (by kernel_rfl) (by kernel_rfl) (fun _ _ _ h => h) (Or.inl ⟨by rfl, ?_⟩) (by assumption) ?_
      rotate_left
      · (intro w hSw; (try dsimp only at hSw); go_simp; try with_reducible rfl)
      simp only [Act.put, List.getElem_toArray, List.getElem_cons_succ, List.getElem_cons_zero, List.setIfInBounds_toArray, List.set_cons_zero, List.set_cons_succ]
      refine wpAnyH_take (i := 20) (v := ?_) rfl (by kernel_rfl) (by kernel_rfl) (by kernel_rfl) (fun _ _ _ h => h) (Or.inl ⟨by rfl, ?_⟩) (by assumption) ?_
      rotate_left
      · (intro w hSw; (try dsimp only at hSw); go_simp; try with_reducible rfl)
      simp only [Act.put, List.getElem_toArray, List.getElem_cons_succ, List.getElem_cons_zero, List.setIfInBounds_toArray, List.set_cons_zero, List.set_cons_succ]
      refine wpAnyH_take (i := 21) (v := ?_) rfl (by kernel_rfl) (by kernel_rfl) (by kernel_rfl) (fun _ _ _ h => h) (Or.inl ⟨by rfl, ?_⟩) (by assumption) ?_
      rotate_left
      · (intro w hSw; (try dsimp only at hSw); go_simp; try with_reducible rfl)
      simp only [Act.put, List.getElem_toArray, List.getElem_cons_succ, List.getElem_cons_zero, List.setIfInBounds_toArray, List.set_cons_zero, List.set_cons_succ]
      refine wpAnyH_take (i := 23) (v := ?_) rfl (by kernel_rfl) (by kernel_rfl) (by kernel_rfl) (fun _ _ _ h => h) (Or.inl ⟨by rfl, ?_⟩) (by assumption) ?_
      rotate_left
      · (intro w hSw; (try dsimp only at hSw); go_simp; try with_reducible rfl)
      simp only [Act.put, List.getElem_toArray, List.getElem_cons_succ, List.getElem_cons_zero, List.setIfInBounds_toArray, List.set_cons_zero, List.set_cons_succ]
      refine wpAnyH_take (i := 24) (v := ?_) rfl (by kernel_rfl) (by kernel_rfl) (by kernel_rfl) (fun _ _ _ h => h) (Or.inl ⟨by rfl, ?_⟩) (by assumption) ?_
      rotate_left
      · (intro w hSw; (try dsimp only at hSw); go_simp; try with_reducible rfl)
      simp only [Act.put, List.getElem_toArray, List.getElem_cons_succ, List.getElem_cons_zero, List.setIfInBounds_toArray, List.set_cons_zero, List.set_cons_succ]
      refine wpAnyH_ready (rs := [22]) (by kernel_rfl) (by simp) ?_
      refine AllReadyH.cons rfl (fun K hK => ?_) AllReadyH.nil
      try simp only [List.getElem_toArray, List.getElem_cons_succ, List.getElem_cons_zero]
      go_simp
      go_at_call 93; (with_reducible refine (HPK.out _ HTc.out).mono ?_); rintro e wn ⟨rfl, hTn⟩; have HTc := Lib.hid (HTc.out.trans hTn (by simp)); clear hTn
      try go_wp2_with fail
      refine hK _ _ (HS.out _ HTc.out) (fun hHeld => ?_)
      clear hK K
      try simp only [Act.put, List.getElem_toArray, List.getElem_cons_succ, List.getElem_cons_zero, List.setIfInBounds_toArray, List.set_cons_zero, List.set_cons_succ]
      refine wpAnyH_take (i := 25) (v := ?_) rfl (by kernel_rfl) (by kernel_rfl) (by kernel_rfl) (fun _ _ _ h => h) (Or.inl ⟨by rfl, ?_⟩) (by assumption) ?_
      rotate_left
      · (intro w hSw; (try dsimp only at hSw); go_simp; try with_reducible rfl)
      simp only [Act.put, List.getElem_toArray, List.getElem_cons_succ, List.getElem_cons_zero, List.setIfInBounds_toArray, List.set_cons_zero, List.set_cons_succ]
      refine wpAnyH_take (i := 26) (v := ?_) rfl (by kernel_rfl) (by kernel_rfl) (by kernel_rfl) (fun _ _ _ h => h) (Or.inl ⟨by rfl, ?_⟩) (by assumption) ?_
      rotate_left
      · (intro w hSw; (try dsimp only at hSw); go_simp; try with_reducible rfl)
      simp only [Act.put, List.getElem_toArray, List.getElem_cons_succ, List.getElem_cons_zero, List.setIfInBounds_toArray, List.set_cons_zero, List.set_cons_succ]
      refine wpAnyH_take (i := 27) (v := ?_) rfl (by kernel_rfl) (by kernel_rfl) (by kernel_rfl) (fun _ _ _ h => h) (Or.inl ⟨by rfl, ?_⟩) (by assumption) ?_
      rotate_left
      · (intro w hSw; (try dsimp only at hSw); go_simp; try with_reducible rfl)
      simp only [Act.put, List.getElem_toArray, List.getElem_cons_succ, List.getElem_cons_zero, List.setIfInBounds_toArray, List.set_cons_zero, List.set_cons_succ]
      refine wpAnyH_take (i := 28) (v := ?_) rfl (by kernel_rfl) (by kernel_rfl) (by kernel_rfl) (fun _ _ _ h => h) (Or.inl ⟨by rfl, ?_⟩) (by assumption) ?_
      rotate_left
      · (intro w hSw; (try dsimp only at hSw); go_simp; try with_reducible rfl)
      simp only [Act.put, List.getElem_toArray, List.getElem_cons_succ, List.getElem_cons_zero, List.setIfInBounds_toArray, List.set_cons_zero, List.set_cons_succ]
      refine wpAnyH_take (i := 30) (v := ?_) rfl (by kernel_rfl) (by kernel_rfl) (by kernel_rfl) (fun _ _ _ h => h) (Or.inl ⟨by rfl, ?_⟩) (by assumption) ?_
      rotate_left
      · (intro w hSw; (try dsimp only at hSw); go_simp; try with_reducible rfl)
      simp only [Act.put, List.getElem_toArray, List.getElem_cons_succ, List.getElem_cons_zero, List.setIfInBounds_toArray, List.set_cons_zero, List.set_cons_succ]
      refine wpAnyH_take (i := 31) (v := ?_) rfl (by kernel_rfl) (by kernel_rfl) (by kernel_rfl) (fun _ _ _ h => h) (Or.inl ⟨by rfl, ?_⟩) (by assumption) ?_
      rotate_left
      · (intro w hSw; (try dsimp only at hSw); go_simp; try with_reducible rfl)
      simp only [Act.put, List.getElem_toArray, List.getElem_cons_succ, List.getElem_cons_zero, List.setIfInBounds_toArray, List.set_cons_zero, List.set_cons_succ]
      refine wpAnyH_take (i := 32) (v := ?_) rfl (by kernel_rfl) (by kernel_rfl) (by kernel_rfl) (fun _ _ _ h => h) (Or.inl ⟨by rfl, ?_⟩) (by assumption) ?_
      rotate_left
      · (intro w hSw; (try dsimp only at hSw); go_simp; try with_reducible rfl)
      simp only [Act.put, List.getElem_toArray, List.getElem_cons_succ, List.getElem_cons_zero, List.setIfInBounds_toArray, List.set_cons_zero, List.set_cons_succ]
      refine wpAnyH_ready (rs := [29]) (by kernel_rfl) (by simp) ?_
      refine AllReadyH.cons rfl (fun K hK => ?_) AllReadyH.nil
      try simp only [List.getElem_toArray, List.getElem_cons_succ, List.getElem_cons_zero]
      go_simp
      go_at_call 59; (with_reducible refine (HLE.out _ HTc.out).mono ?_); rintro e wn ⟨rfl, hTn⟩; have HTc := Lib.hid (HTc.out.trans hTn (by simp)); clear hTn
      try go_wp2_with fail
      refine hK _ _ (HS.out _ HTc.out) (fun hHeld => ?_)
      clear hK K
      try simp only [Act.put, List.getElem_toArray, List.getElem_cons_succ, List.getElem_cons_zero, List.setIfInBounds_toArray, List.set_cons_zero, List.set_cons_succ]
      refine wpAnyH_take (i := 33) (v := ?_) rfl (by kernel_rfl) (by kernel_rfl) (by kernel_rfl) (fun _ _ _ h => h) (Or.inl ⟨by rfl, ?_⟩) (by assumption) ?_
      rotate_left
      · (intro w hSw; (try dsimp only at hSw); go_simp; try with_reducible rfl)
      simp only [Act.put, List.getElem_toArray, List.getElem_cons_succ, List.getElem_cons_zero, List.setIfInBounds_toArray, List.set_cons_zero, List.set_cons_succ]
      refine wpAnyH_take (i := 34) (v := ?_) rfl (by kernel_rfl) (by kernel_rfl) (by kernel_rfl) (fun _ _ _ h => h) (Or.inl ⟨by rfl, ?_⟩) (by assumption) ?_
      rotate_left
      · (intro w hSw; (try dsimp only at hSw); go_simp; try with_reducible rfl)
      simp only [Act.put, List.getElem_toArray, List.getElem_cons_succ, List.getElem_cons_zero, List.setIfInBounds_toArray, List.set_cons_zero, List.set_cons_succ]
      refine wpAnyH_take (i := 35) (v := ?_) rfl (by kernel_rfl) (by kernel_rfl) (by kernel_rfl) (fun _ _ _ h => h) (Or.inl ⟨by rfl, ?_⟩) (by assumption) ?_
      rotate_left
      · (intro w hSw; (try dsimp only at hSw); go_simp; try with_reducible rfl)
      simp only [Act.put, List.getElem_toArray, List.getElem_cons_succ, List.getElem_cons_zero, List.setIfInBounds_toArray, List.set_cons_zero, List.set_cons_succ]
      refine wpAnyH_take (i := 36) (v := ?_) rfl (by kernel_rfl) (by kernel_rfl) (by kernel_rfl) (fun _ _ _ h => h) (Or.inl ⟨by rfl, ?_⟩) (by assumption) ?_
      rotate_left
      · (intro w hSw; (try dsimp only at hSw); go_simp; try with_reducible rfl)
      simp only [Act.put, List.getElem_toArray, List.getElem_cons_succ, List.getElem_cons_zero, List.setIfInBounds_toArray, List.set_cons_zero, List.set_cons_succ]
      refine wpAnyH_take (i := 38) (v := ?_) rfl (by kernel_rfl) (by kernel_rfl) (by kernel_rfl) (fun _ _ _ h => h) (Or.inl ⟨by rfl, ?_⟩) (by assumption) ?_
      rotate_left
      · (intro w hSw; (try dsimp only at hSw); go_simp; try with_reducible rfl)
      simp only [Act.put, List.getElem_toArray, List.getElem_cons_succ, List.getElem_cons_zero, List.setIfInBounds_toArray, List.set_cons_zero, List.set_cons_succ]
      refine wpAnyH_take (i := 39) (v := ?_) rfl (by kernel_rfl) (by kernel_rfl) (by kernel_rfl) (fun _ _ _ h => h) (Or.inl ⟨by rfl, ?_⟩) (by assumption) ?_
      rotate_left
      · (intro w hSw; (try dsimp only at hSw); go_simp; try with_reducible rfl)
      simp only [Act.put, List.getElem_toArray, List.getElem_cons_succ, List.getElem_cons_zero, List.setIfInBounds_toArray, List.set_cons_zero, List.set_cons_succ]
      refine wpAnyH_ready (rs := [37]) (by kernel_rfl) (by simp) ?_
      refine AllReadyH.cons rfl (fun K hK => ?_) AllReadyH.nil
      try simp only [List.getElem_toArray, List.getElem_cons_succ, List.getElem_cons_zero]
      go_simp
      go_at_call 36; (with_reducible refine (HFT.out _ HTc.out).mono ?_); rintro e wn ⟨rfl, hTn⟩; have HTc := Lib.hid (HTc.out.trans hTn (by simp)); clear hTn
      try go_wp2_with fail
      refine hK _ _ (HS.out _ HTc.out) (fun hHeld => ?_)
      clear hK K
      try simp only [Act.put, List.getElem_toArray, List.getElem_cons_succ, List.getElem_cons_zero, List.setIfInBounds_toArray, List.set_cons_zero, List.set_cons_succ]
      refine wpAnyH_take (i := 40) (v := ?_) rfl (by kernel_rfl) (by kernel_rfl) (by kernel_rfl) (fun _ _ _ h => h) (Or.inl ⟨by rfl, ?_⟩) (by assumption) ?_
      rotate_left
      · (intro w hSw; (try dsimp only at hSw); go_simp; try with_reducible rfl)
      simp only [Act.put, List.getElem_toArray, List.getElem_cons_succ, List.getElem_cons_zero, List.setIfInBounds_toArray, List.set_cons_zero, List.set_cons_succ]
      refine wpAnyH_take (i := 41) (v := ?_) rfl (by kernel_rfl) (by kernel_rfl) (by kernel_rfl) (fun _ _ _ h => h) (Or.inl ⟨by rfl, ?_⟩) (by assumption) ?_
      rotate_left
      · (intro w hSw; (try dsimp only at hSw); go_simp; try with_reducible rfl)
      simp only [Act.put, List.getElem_toArray, List.getElem_cons_succ, List.getElem_cons_zero, List.setIfInBounds_toArray, List.set_cons_zero, List.set_cons_succ]
      refine wpAnyH_take (i := 42) (v := ?_) rfl (by kernel_rfl) (by kernel_rfl) (by kernel_rfl) (fun _ _ _ h => h) (Or.inl ⟨by rfl, ?_⟩) (by assumption) ?_
      rotate_left
      · (intro w hSw; (try dsimp only at hSw); go_simp; try with_reducible rfl)
      simp only [Act.put, List.getElem_toArray, List.getElem_cons_succ, List.getElem_cons_zero, List.setIfInBounds_toArray, List.set_cons_zero, List.set_cons_succ]
      refine wpAnyH_take (i := 43) (v := ?_) rfl (by kernel_rfl) (by kernel_rfl) (by kernel_rfl) (fun _ _ _ h => h) (Or.inl ⟨by rfl, ?_⟩) (by assumption) ?_
      rotate_left
      · (intro w hSw; (try dsimp only at hSw); go_simp; try with_reducible rfl)
      simp only [Act.put, List.getElem_toArray, List.getElem_cons_succ, List.getElem_cons_zero, List.setIfInBounds_toArray, List.set_cons_zero, List.set_cons_succ]
      refine wpAnyH_take (i := 45) (v := ?_) rfl (by kernel_rfl) (by kernel_rfl) (by kernel_rfl) (fun _ _ _ h => h) (Or.inl ⟨by rfl, ?_⟩) (by assumption) ?_
      rotate_left
      · (intro w hSw; (try dsimp only at hSw); go_simp; try with_reducible rfl)
      simp only [Act.put, List.getElem_toArray, List.getElem_cons_succ, List.getElem_cons_zero, List.setIfInBounds_toArray, List.set_cons_zero, List.set_cons_succ]
      refine wpAnyH_take (i := 46) (v := ?_) rfl (by kernel_rfl) (by kernel_rfl) (by kernel_rfl) (fun _ _ _ h => h) (Or.inl ⟨by rfl, ?_⟩) (by assumption) ?_
      rotate_left
      · (intro w hSw; (try dsimp only at hSw); go_simp; try with_reducible rfl)
      simp only [Act.put, List.getElem_toArray, List.getElem_cons_succ, List.getElem_cons_zero, List.setIfInBounds_toArray, List.set_cons_zero, List.set_cons_succ]
      refine wpAnyH_ready (rs := [44]) (by kernel_rfl) (by simp) ?_
      refine AllReadyH.cons rfl (fun K hK => ?_) AllReadyH.nil
      try simp only [List.getElem_toArray, List.getElem_cons_succ, List.getElem_cons_zero]
      go_simp
      go_at_call 94; (with_reducible refine (HTA.out _ HTc.out).mono ?_); rintro e wn ⟨rfl, hTn⟩; have HTc := Lib.hid (HTc.out.trans hTn (by simp)); clear hTn
      try go_wp2_with fail
      refine hK _ _ (HS.out _ HTc.out) (fun hHeld => ?_)
      clear hK K
      try simp only [Act.put, List.getElem_toArray, List.getElem_cons_succ, List.getElem_cons_zero, List.setIfInBounds_toArray, List.set_cons_zero, List.set_cons_succ]
      refine wpAnyH_take (i := 47) (v := ?_) rfl (by kernel_rfl) (by kernel_rfl) (by kernel_rfl) (fun _ _ _ h => h) (Or.inl ⟨by rfl, ?_⟩) (by assumption) ?_
      rotate_left
      · (intro w hSw; (try dsimp only at hSw); go_simp; try with_reducible rfl)
      simp only [Act.put, List.getElem_toArray, List.getElem_cons_succ, List.getElem_cons_zero, List.setIfInBounds_toArray, List.set_cons_zero, List.set_cons_succ]
      refine wpAnyH_take (i := 48) (v := ?_) rfl (by kernel_rfl) (by kernel_rfl) (by kernel_rfl) (fun _ _ _ h => h) (Or.inl ⟨by rfl, ?_⟩) (by assumption) ?_
      rotate_left
      · (intro w hSw; (try dsimp only at hSw); go_simp; try with_reducible rfl)
      simp only [Act.put, List.getElem_toArray, List.getElem_cons_succ, List.getElem_cons_zero, List.setIfInBounds_toArray, List.set_cons_zero, List.set_cons_succ]
      refine wpAnyH_done (by kernel_rfl) ?_ _
      go_wp2_with fail
      go_ret
      exact ⟨rfl, HEND.out _ HTc.out⟩
end Arn
end Go.Proofs.YtlghinjggkgfmaaGreat
