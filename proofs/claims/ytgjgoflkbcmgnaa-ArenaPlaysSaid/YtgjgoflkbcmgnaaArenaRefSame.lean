/- The document's Same: two lists of blocks. -/
import Derived.Test.YtgjgoflkbcmgnaaArenaRefLay3
set_option linter.unusedVariables false
set_option linter.unusedSimpArgs false
namespace Go.Proofs.Ytgjgoflkbcmgnaa
namespace Arn
open Go.RowKit Hp Go.Maps

theorem BlksAt.row_at {w : World} {a : Option Addr} {n c : Nat} {l : List RB} (h : BlksAt w (.slice a n c) l) {j : Nat} {y : RB} (hy : l[j]? = some y) :
    ∃ g, a = some ⟨g, 0, none⟩ ∧ w.cell? ⟨g, j * 2, none⟩ = some (.int .u64 y.1.h) ∧ ∃ ya yc, w.cell? ⟨g, j * 2 + 1, none⟩ = some (.slice ya y.1.ws.length yc) ∧ ∀ k x, y.1.ws[k]? = some x → ∃ ad, ya = some ad ∧ w.cell? (ad.add k) = some (.int .u64 x) := by
  obtain ⟨r1, r2⟩ := rbCells_get l j y hy
  rcases h.head with ⟨_, e2⟩ | ⟨g, c', e1, _, _, hc⟩
  · rw [e2] at hy; simp at hy
  · simp only [Value.slice.injEq] at e1
    refine ⟨g, e1.1, hc _ _ r1, ?_⟩
    have hB := hc _ _ r2
    rcases h.rows y (List.mem_of_getElem? hy) with ⟨e3, e4⟩ | ⟨ad, yc, e3, hw⟩
    · exact ⟨none, 0, by rw [hB, e3, e4]; rfl, fun k x hx => by rw [e4] at hx; simp at hx⟩
    · exact ⟨some ad, yc, by rw [hB, e3], fun k x hx => ⟨ad, rfl, hw k _ (by simp [u64s, hx])⟩⟩
theorem take_snoc {l1 l2 : List RB} {j : Nat} {y1 y2 : RB} (h : (l1.take j).map Prod.fst = (l2.take j).map Prod.fst) (h1 : l1[j]? = some y1) (h2 : l2[j]? = some y2) (e : y1.1 = y2.1) : (l1.take (j + 1)).map Prod.fst = (l2.take (j + 1)).map Prod.fst := by
  rw [List.take_add_one, List.take_add_one, h1, h2]
  simp only [Option.toList_some, List.map_append, List.map_cons, List.map_nil, h, e]
theorem apart_at {l1 l2 : List RB} {j : Nat} {y1 y2 : RB} (h1 : l1[j]? = some y1) (h2 : l2[j]? = some y2) (e : y1.1 ≠ y2.1) : ¬ l1.map Prod.fst = l2.map Prod.fst := by
  intro h
  have := congrArg (fun l => l[j]?) h
  simp [h1, h2] at this
  exact e this
set_option maxRecDepth 100000 in
set_option maxHeartbeats 4000000 in
theorem refSame_any (v1 v2 : Value) (l1 l2 : List RB) (w : World) (h1 : BlksAt w v1 l1) (h2 : BlksAt w v2 l2) (hl1 : l1.length ≤ 70000) (hl2 : l2.length ≤ 70000) (hw1 : ∀ x, x ∈ l1 → x.1.ws.length ≤ 70000) (hw2 : ∀ x, x ∈ l2 → x.1.ws.length ≤ 70000) :
    Calls Try.prog 34 #[v1, v2] w fun e w' => ∃ b : Bool, e = .returned (.bool b) ∧ (b = true ↔ l1.map Prod.fst = l2.map Prod.fst) ∧ Frm.Turn [] w w' := by
  obtain ⟨a1, c1, rfl⟩ := h1.form
  obtain ⟨a2, c2, rfl⟩ := h2.form
  have H1 := Lib.hid h1
  have H2 := Lib.hid h2
  have HW1 := Lib.hid hw1
  have HW2 := Lib.hid hw2
  obtain ⟨n, HN1⟩ : ∃ n, Hid (n = l1.length) := ⟨_, Lib.hid rfl⟩
  obtain ⟨n2, HN2⟩ : ∃ n, Hid (n = l2.length) := ⟨_, Lib.hid rfl⟩
  rw [← HN1.out] at hl1 ⊢
  rw [← HN2.out] at hl2 ⊢
  clear h1 h2 hw1 hw2
  go_enter Try.func34, Try.ntmps34
  by_cases hn : n = n2
  case neg =>
    have e1 : ((n : Int) != (n2 : Int)) = true := by simp; omega
    have HNN := Lib.hid hn
    clear hn
    go_wp2_with fail
    go_ret
    refine ⟨false, rfl, ?_, Frm.Turn.refl [] w⟩
    simp only [Bool.false_eq_true, false_iff]
    intro e
    have := congrArg List.length e
    simp only [List.length_map] at this
    exact HNN.out (by rw [HN1.out, HN2.out, this])
  subst hn
  have e1 : ((n : Int) != (n : Int)) = false := by simp
  go_wp2_with fail
  go_loopw [14] (fun i wr => ∃ j : Nat, j ≤ n ∧ i = .int .i64 j ∧ (l1.take j).map Prod.fst = (l2.take j).map Prod.fst ∧ Frm.Turn [] w wr) (fun i _ => n - (intOf i).toNat)
  case atStart => exact ⟨0, Nat.zero_le _, rfl, by simp, Frm.Turn.refl [] w⟩
  case round =>
    obtain ⟨j, hj, rfl, hsame, hT⟩ := hrel
    have HSA := Lib.hid hsame
    have HT := Lib.hid hT
    clear hsame hT
    by_cases hlt : j < n
    · obtain ⟨y1, hy1⟩ : ∃ y, l1[j]? = some y := ⟨_, List.getElem?_eq_getElem (by rw [← HN1.out]; exact hlt)⟩
      obtain ⟨y2, hy2⟩ : ∃ y, l2[j]? = some y := ⟨_, List.getElem?_eq_getElem (by rw [← HN2.out]; exact hlt)⟩
      obtain ⟨g1, rfl, q1, ya1, yc1, p1, r1⟩ := H1.out.row_at hy1
      obtain ⟨g2, rfl, q2, ya2, yc2, p2, r2⟩ := H2.out.row_at hy2
      have HQ1 := Lib.hid q1
      have HQ2 := Lib.hid q2
      have HP1 := Lib.hid p1
      have HP2 := Lib.hid p2
      have HR1 := Lib.hid r1
      have HR2 := Lib.hid r2
      have HY1 := Lib.hid hy1
      have HY2 := Lib.hid hy2
      have m1 := HW1.out y1 (List.mem_of_getElem? hy1)
      have m2 := HW2.out y2 (List.mem_of_getElem? hy2)
      clear q1 q2 p1 p2 r1 r2 hy1 hy2
      have cA1 := HT.out.cell HQ1.out (by simp)
      have cA2 := HT.out.cell HQ2.out (by simp)
      have cB1 := HT.out.cell HP1.out (by simp)
      have cB2 := HT.out.cell HP2.out (by simp)
      obtain ⟨k1, HK1⟩ : ∃ k, Hid (k = y1.1.h) := ⟨_, Lib.hid rfl⟩
      obtain ⟨k2, HK2⟩ : ∃ k, Hid (k = y2.1.h) := ⟨_, Lib.hid rfl⟩
      obtain ⟨t1, HT1⟩ : ∃ k, Hid (k = y1.1.ws.length) := ⟨_, Lib.hid rfl⟩
      obtain ⟨t2, HT2⟩ : ∃ k, Hid (k = y2.1.ws.length) := ⟨_, Lib.hid rfl⟩
      rw [← HK1.out] at cA1
      rw [← HK2.out] at cA2
      rw [← HT1.out] at cB1 m1
      rw [← HT2.out] at cB2 m2
      rw [← HT1.out] at HP1
      rw [← HT2.out] at HP2
      by_cases hk : k1 = k2
      case neg =>
        have ek : (k1 != k2) = true := by simpa using hk
        have HNE := Lib.hid hk
        clear hk
        go_upto_region 6 with fail
        go_region
        go_wp2_with fail
        go_ret
        refine ⟨false, rfl, ?_, by repeat (first | exact HT.out | apply Frm.Turn.drewN | apply Frm.Turn.drew | apply Frm.Turn.alloc)⟩
        simp only [Bool.false_eq_true, false_iff]
        exact apart_at HY1.out HY2.out (fun e => HNE.out (by rw [HK1.out, HK2.out, e]))
      have ek : (k1 != k2) = false := by simpa using hk
      have HKK := Lib.hid hk
      clear hk
      by_cases ht : t1 = t2
      case neg =>
        have et : ((t1 : Int) != (t2 : Int)) = true := by simp; omega
        have HNE := Lib.hid ht
        clear ht
        go_upto_region 6 with fail
        go_region
        go_wp2_with fail
        go_ret
        refine ⟨false, rfl, ?_, by repeat (first | exact HT.out | apply Frm.Turn.drewN | apply Frm.Turn.drew | apply Frm.Turn.alloc)⟩
        simp only [Bool.false_eq_true, false_iff]
        exact apart_at HY1.out HY2.out (fun e => HNE.out (by rw [HT1.out, HT2.out, e]))
      subst ht
      have et : ((t1 : Int) != (t1 : Int)) = false := by simp
      go_upto_region 6 with fail
      go_region
      go_wp2_with fail
      go_loopw [49] (fun i wz => ∃ q : Nat, q ≤ t1 ∧ i = .int .i64 q ∧ y1.1.ws.take q = y2.1.ws.take q ∧ Frm.Turn [] w wz) (fun i _ => t1 - (intOf i).toNat)
      case atStart => exact ⟨0, Nat.zero_le _, rfl, by simp, by repeat (first | exact HT.out | apply Frm.Turn.drewN | apply Frm.Turn.drew | apply Frm.Turn.alloc)⟩
      case round =>
        obtain ⟨q, hq, rfl, hws, hTz⟩ := hrel
        have HWS := Lib.hid hws
        have HTZ := Lib.hid hTz
        clear hws hTz cA1 cA2 cB1 cB2
        by_cases hqt : q < t1
        · obtain ⟨x1, hx1⟩ : ∃ x, y1.1.ws[q]? = some x := ⟨_, List.getElem?_eq_getElem (by rw [← HT1.out]; exact hqt)⟩
          obtain ⟨x2, hx2⟩ : ∃ x, y2.1.ws[q]? = some x := ⟨_, List.getElem?_eq_getElem (by rw [← HT2.out]; exact hqt)⟩
          obtain ⟨ad1, rfl, w1⟩ := HR1.out q x1 hx1
          obtain ⟨ad2, rfl, w2⟩ := HR2.out q x2 hx2
          have cB1 := HTZ.out.cell HP1.out (by simp)
          have cB2 := HTZ.out.cell HP2.out (by simp)
          have cW1 := HTZ.out.cell w1 (by simp)
          have cW2 := HTZ.out.cell w2 (by simp)
          have HX1 := Lib.hid hx1
          have HX2 := Lib.hid hx2
          clear w1 w2 hx1 hx2
          by_cases hx : x1 = x2
          · have ex : (x1 != x2) = false := by simpa using hx
            have HXX := Lib.hid hx
            clear hx
            go_upto_region 11 with fail
            go_region
            go_wp2_with fail
            go_roundw
            case rel => exact ⟨q + 1, by omega, by simp, by rw [List.take_add_one, List.take_add_one, HX1.out, HX2.out, HWS.out, HXX.out], by repeat (first | exact HTZ.out | apply Frm.Turn.drewN | apply Frm.Turn.drew | apply Frm.Turn.alloc)⟩
            case measure => simp [intOf]; omega
          · have ex : (x1 != x2) = true := by simpa using hx
            have HXX := Lib.hid hx
            clear hx
            go_upto_region 11 with fail
            go_region
            go_wp2_with fail
            go_ret
            refine ⟨false, rfl, ?_, by repeat (first | exact HTZ.out | apply Frm.Turn.drewN | apply Frm.Turn.drew | apply Frm.Turn.alloc)⟩
            simp only [Bool.false_eq_true, false_iff]
            exact apart_at HY1.out HY2.out (fun e => HXX.out (by have h1 := HX1.out; have h2 := HX2.out; rw [e, h2] at h1; exact (Option.some.inj h1).symm))
        · obtain rfl : q = t1 := by omega
          have HEQ : Hid (y1.1 = y2.1) := Lib.hid (by
            have h1 := HWS.out
            rw [show y1.1.ws.take q = y1.1.ws from by rw [HT1.out, List.take_length], show y2.1.ws.take q = y2.1.ws from by rw [HT2.out, List.take_length]] at h1
            have h2 : y1.1.h = y2.1.h := by rw [← HK1.out, ← HK2.out, HKK.out]
            cases hz1 : y1.1
            cases hz2 : y2.1
            rw [hz1, hz2] at h1 h2
            simp at h1 h2
            rw [h1, h2])
          go_wp2_with fail
          go_roundw
          case rel => exact ⟨j + 1, by omega, by simp, take_snoc HSA.out HY1.out HY2.out HEQ.out, by repeat (first | exact HTZ.out | apply Frm.Turn.drewN | apply Frm.Turn.drew | apply Frm.Turn.alloc)⟩
          case measure => simp [intOf]; omega
    · obtain rfl : j = n := by omega
      go_wp2_with fail
      go_ret
      refine ⟨true, rfl, ?_, HT.out⟩
      have h1 := HSA.out
      rw [show l1.take j = l1 from by rw [HN1.out, List.take_length], show l2.take j = l2 from by rw [HN2.out, List.take_length]] at h1
      simp [h1]
end Arn
end Go.Proofs.Ytgjgoflkbcmgnaa
