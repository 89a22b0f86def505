/- Two slices of words alike? Two maps of such? slices.Equal, maps.EqualFunc. -/
import Derived.Test.YtgjgoflkbcmgnaaArenaCopy
set_option linter.unusedVariables false
set_option linter.unusedSimpArgs false
namespace Go.Proofs.Ytgjgoflkbcmgnaa
namespace Arn
open Go.RowKit Hp Go.Maps

abbrev U64Row (w : World) (g c : Nat) (l : List Int) : Prop := w.ownsRow 0 29 1 (.slice (some ⟨g, 0, none⟩) l.length c) l.length (u64s l)
theorem urow_cell {w : World} {g c : Nat} {l : List Int} (h : U64Row w g c l) {j : Nat} (hj : j < l.length) : w.cell? ⟨g, j, none⟩ = some (.int .u64 (l.getD j 0)) := by
  rw [World.ownsRow.cellAt h j (by omega)]
  simp [u64s, hj, List.getD_eq_getElem?_getD]
theorem eq_of_getD {l1 l2 : List Int} (hn : l1.length = l2.length) (h : ∀ j, j < l1.length → l1.getD j 0 = l2.getD j 0) : l1 = l2 := by
  apply List.ext_getElem hn
  intro j h1 h2
  have := h j h1
  simpa [List.getD_eq_getElem?_getD, h1, h2] using this
theorem uequal_len (g1 c1 g2 c2 n1 n2 : Nat) (w : World) (hn : n1 ≠ n2) (h1 : n1 ≤ 65536) (h2 : n2 ≤ 65536) :
    Calls Try.prog 48 #[.slice (some ⟨g1, 0, none⟩) n1 c1, .slice (some ⟨g2, 0, none⟩) n2 c2] w fun e w' => e = .returned (.bool false) ∧ w = w' := by
  have hne : ((n1 : Int) == (n2 : Int)) = false := beq_eq_false_iff_ne.2 (by omega)
  have hne' : ((n1 : Int) != (n2 : Int)) = true := by rw [bne_iff_ne]; omega
  have hne2 : (n1 != n2) = true := by rw [bne_iff_ne]; exact hn
  go_enter Try.func48, Try.ntmps48
  go_wp2
  go_ret
  exact ⟨rfl, rfl⟩
set_option maxHeartbeats 1000000 in
theorem uequal_rows {w : World} {g1 c1 g2 c2 : Nat} {l1 l2 : List Int} (h1 : U64Row w g1 c1 l1) (h2 : U64Row w g2 c2 l2) (hn : l1.length = l2.length) (hle : l1.length ≤ 65536) :
    Calls Try.prog 48 #[.slice (some ⟨g1, 0, none⟩) l1.length c1, .slice (some ⟨g2, 0, none⟩) l2.length c2] w fun e w' => e = .returned (.bool (l1 == l2)) ∧ Frm.Turn [] w w' := by
  have H1 := Lib.hid h1
  have H2 := Lib.hid h2
  have HEQ := Lib.hid (show ∀ t : Bool, (t = true ↔ ∀ j, j < l1.length → l1.getD j 0 = l2.getD j 0) → (l1 == l2) = t from fun t ht => by
    rw [Bool.eq_iff_iff, beq_iff_eq, ht]
    exact ⟨fun e j _ => by rw [e], fun h => eq_of_getD hn h⟩)
  rw [← hn]
  have HN := Lib.hid hn
  clear h1 h2 hn
  obtain ⟨n, hN⟩ : ∃ n, n = l1.length := ⟨_, rfl⟩
  rw [← hN] at hle ⊢
  have HL := Lib.hid hN
  clear hN
  go_enter Try.func48, Try.ntmps48
  go_wp2
  go_loopw [13] (fun i wr => ∃ k : Nat, k ≤ n ∧ i = .int .i64 (k : Int) ∧ Frm.Turn [] w wr ∧ ∀ j, j < k → l1.getD j 0 = l2.getD j 0) (fun i _ => n - (intOf i).toNat)
  case atStart => exact ⟨0, Nat.zero_le _, rfl, Frm.Turn.refl [] w, fun j hj => absurd hj (Nat.not_lt_zero _)⟩
  case round =>
    obtain ⟨k, hk, rfl, hT, hall⟩ := hrel
    have HA := Lib.hid hall
    have HT := Lib.hid hT
    clear hall hT
    by_cases hlt : k < n
    · have e1 := HT.out.cell (urow_cell H1.out (by rw [← HL.out]; exact hlt)) (by simp)
      have e2 := HT.out.cell (urow_cell H2.out (by rw [← HN.out, ← HL.out]; exact hlt)) (by simp)
      obtain ⟨x, hx⟩ : ∃ x, x = l1.getD k 0 := ⟨_, rfl⟩
      obtain ⟨y, hy⟩ : ∃ y, y = l2.getD k 0 := ⟨_, rfl⟩
      rw [← hx] at e1
      rw [← hy] at e2
      have HX := Lib.hid hx
      have HY := Lib.hid hy
      have hk0 : (0 : Int) ≤ (k : Int) := by omega
      have hk1 : (k : Int) < (n : Int) := by omega
      clear hx hy
      cases hev : (x == y) with
      | true =>
        have hev' : (x != y) = false := by simp only [bne, hev]; rfl
        go_wp2
        go_quiet (fail)
        go_wp2
        go_roundw
        case rel =>
          refine ⟨k + 1, by omega, by go_num, HT.out.drewN _, fun j hj => ?_⟩
          rcases Nat.lt_succ_iff_lt_or_eq.1 hj with h | rfl
          · exact HA.out j h
          · rw [← HX.out, ← HY.out]; simpa using hev
        case measure => simp [intOf]; omega
      | false =>
        have hev' : (x != y) = true := by simp only [bne, hev]; rfl
        go_wp2
        go_quiet (fail)
        go_wp2
        go_ret
        refine ⟨?_, HT.out.drewN _⟩
        have hno : (false = true ↔ ∀ j, j < l1.length → l1.getD j 0 = l2.getD j 0) := by
          constructor
          · intro h; cases h
          · intro h
            have := h k (by rw [← HL.out]; exact hlt)
            rw [← HX.out, ← HY.out] at this
            simp [this] at hev
        rw [HEQ.out false hno]
        rfl
    · go_wp2
      go_ret
      refine ⟨?_, HT.out⟩
      rw [HEQ.out true ⟨fun _ j hj => HA.out j (by rw [← HL.out] at hj; omega), fun _ => rfl⟩]
      rfl
theorem uequal_any {w : World} {g1 c1 g2 c2 : Nat} {l1 l2 : List Int} (h1 : U64Row w g1 c1 l1) (h2 : U64Row w g2 c2 l2) (hle1 : l1.length ≤ 65536) (hle2 : l2.length ≤ 65536) :
    Calls Try.prog 48 #[.slice (some ⟨g1, 0, none⟩) l1.length c1, .slice (some ⟨g2, 0, none⟩) l2.length c2] w fun e w' => e = .returned (.bool (l1 == l2)) ∧ Frm.Turn [] w w' := by
  by_cases hn : l1.length = l2.length
  · exact uequal_rows h1 h2 hn hle1
  · have he : (l1 == l2) = false := beq_eq_false_iff_ne.2 (fun e => hn (by rw [e]))
    refine (uequal_len g1 c1 g2 c2 l1.length l2.length w hn hle1 hle2).mono fun e w' hq => ?_
    obtain ⟨rfl, rfl⟩ := hq
    exact ⟨by rw [he], Frm.Turn.refl [] w⟩
theorem alike_any {w : World} {g1 c1 g2 c2 : Nat} {l1 l2 : List Int} (h1 : U64Row w g1 c1 l1) (h2 : U64Row w g2 c2 l2) (hle1 : l1.length ≤ 65536) (hle2 : l2.length ≤ 65536) (t : Bool) (ht : (l1 == l2) = t) :
    Calls Try.prog 47 #[.slice (some ⟨g1, 0, none⟩) l1.length c1, .slice (some ⟨g2, 0, none⟩) l2.length c2] w fun e w' => e = .returned (.bool t) ∧ Frm.Turn [] w w' := by
  have H := Lib.hid (uequal_any h1 h2 hle1 hle2)
  have HT := Lib.hid ht
  clear h1 h2 hle1 hle2 ht
  generalize l1.length = n1 at H ⊢
  generalize l2.length = n2 at H ⊢
  go_enter Try.func47, Try.ntmps47
  go_wp2_with (go_at_call 48; (with_reducible refine (H.out).mono ?_); rintro e w1 ⟨rfl, hT⟩; have HT1 := Lib.hid hT; clear hT)
  go_ret
  exact ⟨by rw [← HT.out]; rfl, HT1.out⟩

def sameAs (L2 : List Blk) (x : Blk) : Bool := L2.any fun y => y.h == x.h && x.ws == y.ws
def sameSet (L1 L2 : List Blk) : Bool := decide (L1.length = L2.length) && L1.all (sameAs L2)
def EqRel (w : World) (m1 r n : Nat) (D1 : DataW Unit) (L1 L2 : List Blk) (wr : World) : Prop :=
  ∃ (left : Lit → Bool) (cnt : Nat), wr.ranges Try.prog 29 hdr m1 r n D1 left cnt ∧ Frm.Turn [] w wr ∧ ∀ x, x ∈ L1 → left (.int .u64 x.h) = false → sameAs L2 x = true

attribute [local go_sem ↓] Go.wp_at_zero Go.wp_at_succ
set_option maxRecDepth 100000 in
set_option maxHeartbeats 4000000 in
theorem mequal_any {w : World} {b1 b2 : Nat} {M1 M2 : Mem} {A1 A2 : Ar} (h1 : ArAt w b1 M1 A1) (h2 : ArAt w b2 M2 A2) :
    Calls Try.prog 46 #[.map (some M1.m), .map (some M2.m), .func (.func 47) #[] #[]] w fun e w' => e = .returned (.bool (sameSet A1.L A2.L)) ∧ Frm.Turn [] w w' := by
  obtain ⟨D1, hD1⟩ := h1.map
  obtain ⟨D2, hD2⟩ := h2.map
  have hown1 := hD1.own
  have hown2 := hD2.own
  have HS1 := Lib.hid hD1.size
  have HS2 := Lib.hid hD2.size
  have H1 := Lib.hid h1
  have H2 := Lib.hid h2
  have HD1 := Lib.hid hD1
  have HD2 := Lib.hid hD2
  have hl1 : (Maps.size D1 : Int) ≤ 60000 := by
    have q1 := length_le_used (fun x hx => (h1.ok.len x hx).1); have q2 := h1.ok.top; have q3 := h1.ok.peak; have q4 := h1.ok.cap; have q5 := hD1.size; omega
  have hl2 : (Maps.size D2 : Int) ≤ 60000 := by
    have q1 := length_le_used (fun x hx => (h2.ok.len x hx).1); have q2 := h2.ok.top; have q3 := h2.ok.peak; have q4 := h2.ok.cap; have q5 := hD2.size; omega
  clear h1 h2 hD1 hD2
  by_cases hsz : Maps.size D1 = Maps.size D2
  · have hsz' : ((Maps.size D1 : Int) == (Maps.size D2 : Int)) = true := by rw [hsz]; simp
    have hsz2 : ((Maps.size D1 : Int) != (Maps.size D2 : Int)) = false := by rw [hsz]; simp
    have HSZ := Lib.hid hsz
    clear hsz
    go_enter Try.func46, Try.ntmps46
    go_wp2_with (first
      | (at_len; refine wpList_len_own _ rfl (.tmp 11) 79 rfl 29 42 mapU _ M1.m _ D1 rfl hown1 ?_)
      | (at_len; refine wpList_len_own _ rfl (.tmp 13) 79 rfl 29 42 mapU _ M2.m _ D2 rfl hown2 ?_)
      | (at_range; refine wpList_range_own _ rfl _ 79 rfl 29 42 keyU mapU hdr M1.m (Maps.size D1) D1 rfl hown1 ?_; intro w0 hrg0 hg0 hs0))
    go_frame
    have HST := Lib.hid (show EqRel w M1.m w.heap.size (Maps.size D1) D1 A1.L A2.L w0 from ⟨_, _, hrg0, by simpa using Frm.Turn.of_grown hg0, fun x hx hl => by rw [HD1.out.has, hasH_iff.2 ⟨x, hx, rfl⟩] at hl; cases hl⟩)
    clear hrg0 hg0 hs0 hown1 hown2
    go_loopw [7] (fun _ wr => EqRel w M1.m w.heap.size (Maps.size D1) D1 A1.L A2.L wr) (fun _ wr => wr.rangeLeft M1.m w.heap.size)
    case atStart => exact HST.out
    case round =>
      obtain ⟨left, cnt, hrg, hT, hall⟩ := hrel
      have HT := Lib.hid hT
      have HA := Lib.hid hall
      have HRG := Lib.hid hrg
      clear hT hall
      go_wp2_with (at_next; refine wpList_next_ranges _ rfl _ rfl 29 keyU hdr (Value.int .u64) id (fun key kl hk => by obtain ⟨x, rfl, _⟩ := Maps.keyOf_int_inv under_u64 hk; exact ⟨x, rfl⟩) (fun v y hv => ⟨v, rfl⟩) M1.m w.heap.size (Maps.size D1) D1 left cnt rfl hrg ?_ ?_)
      · intro hc0 hl0
        have HR := Lib.hid (show sameSet A1.L A2.L = true by
          have q1 := HS1.out
          have q2 := HS2.out
          have q3 := HSZ.out
          simp only [sameSet, Bool.and_eq_true, decide_eq_true_eq, List.all_eq_true]
          exact ⟨by omega, fun x hx => HA.out x hx (hl0 _)⟩)
        clear hl0 hc0
        go_wp2
        go_ret
        exact ⟨by rw [HR.out]; rfl, HT.out⟩
      · intro x c kl yd yp w1 cnt1 hkey hlk hv hat hrg1 hlt hg1 hs1 hen
        obtain ⟨x', ex, rfl, hwx⟩ := Maps.keyOf_int_inv under_u64 hkey
        cases ex
        have hx64 := of_wf_u64 hwx
        have hhas : hasH A1.L x = true := by rw [← HD1.out.has]; exact has_true_of_atKey hat
        obtain ⟨j, r, xb, hr, hxb, hrh, hxh, hR⟩ := H1.out.find_row hhas
        have hyd : yd = hdat r.g xb.ws.length r.c := by rw [← hat .nil, ← hrh]; exact HD1.out.at_ j r xb hr hxb .nil
        rw [hyd] at hv
        have hcv : c = .slice (some ⟨r.g, 0, none⟩) xb.ws.length r.c := hdr_of hv
        have T1 : Frm.Turn [w.heap.size] wr w1 := by simpa using Frm.Turn.of_grown hg1
        have TW : Frm.Turn [] w w1 := HT.out.trans T1 (fun k hk => by simp at hk; subst hk; exact Or.inr (Nat.le_refl _))
        have HTW := Lib.hid TW
        have HRG1 := Lib.hid hrg1
        have HLT := Lib.hid hlt
        have HHX := Lib.hid (show A1.L[j]? = some xb ∧ xb.h = x from ⟨hxb, hxh⟩)
        have HR1 := Lib.hid (hR.turn TW (by simp))
        have HL1 := Lib.hid (show xb.ws.length ≤ 65536 by have := (H1.out.ok.len xb (List.mem_of_getElem? hxb)).2; omega)
        have only : ∀ z, z ∈ A1.L → z.h = x → z = xb := fun z hz e => H1.out.ok.h_inj hz (List.mem_of_getElem? hxb) (by rw [e, hxh])
        have HON := Lib.hid only
        clear T1 TW hrg1 hlt hR hr hrh hxb hxh hv hyd hat hhas hlk hkey hwx hg1 hs1 only hrg
        cases hh2 : hasH A2.L x with
        | false =>
          have hlk2 := (HD2.out.turn HTW.out (by simp)).look_no hh2 hx64
          have HR := Lib.hid (show sameSet A1.L A2.L = false by
            obtain ⟨q1, q2⟩ := HHX.out
            have : A1.L.all (sameAs A2.L) = false := by
              rw [List.all_eq_false]
              refine ⟨xb, List.mem_of_getElem? q1, ?_⟩
              intro hc
              simp only [sameAs, List.any_eq_true, Bool.and_eq_true, beq_iff_eq] at hc
              obtain ⟨y, hy, e, _⟩ := hc
              rw [hasH_false] at hh2
              exact hh2 y hy (by rw [e, q2])
            unfold sameSet; rw [this, Bool.and_false])
          clear hh2 hx64
          go_wp2
          go_ret
          exact ⟨by rw [HR.out]; rfl, HTW.out⟩
        | true =>
          obtain ⟨j2, r2, y, hr2, hy2, hrh2, hyh2, hR2⟩ := H2.out.find_row hh2
          have hlk2 := (HD2.out.turn HTW.out (by simp)).look_yes hr2 hy2 (by rw [hrh2, hyh2]) (by rw [hrh2]; exact hx64)
          rw [hrh2] at hlk2
          have HR2 := Lib.hid (hR2.turn HTW.out (by simp))
          have HL2 := Lib.hid (show y.ws.length ≤ 65536 by have := (H2.out.ok.len y (List.mem_of_getElem? hy2)).2; omega)
          have HY := Lib.hid (show y ∈ A2.L ∧ y.h = x from ⟨List.mem_of_getElem? hy2, hyh2⟩)
          clear hR2 hr2 hy2 hrh2 hyh2 hh2 hx64
          have HCL := Lib.hid (fun (W : World) (hW : Frm.Turn [] w1 W) (t : Bool) (ht : (xb.ws == y.ws) = t) => alike_any ((HR1.out.turn hW (by simp)).own) ((HR2.out.turn hW (by simp)).own) HL1.out HL2.out t ht)
          rw [← hcv] at HCL
          have only2 : ∀ z, z ∈ A2.L → z.h = x → z = y := fun z hz e => H2.out.ok.h_inj hz HY.out.1 (by rw [e, HY.out.2])
          have HON2 := Lib.hid only2
          have HCV := Lib.hid hcv
          clear only2 hcv
          cases hev : (xb.ws == y.ws) with
          | true =>
            have HEV := Lib.hid hev
            clear hev
            go_wp2_with (go_at_call 47; (with_reducible refine (HCL.out _ (Frm.Turn.refl [] w1) true HEV.out).mono ?_); rintro e w3 ⟨rfl, hT3⟩; have HT3 := Lib.hid hT3; clear hT3)
            go_roundw
            case rel =>
              refine ⟨_, cnt1, HRG1.out.kept (grown_of HT3.out) (by simp) (by simp), HTW.out.trans HT3.out (by simp), fun z hz hl => ?_⟩
              by_cases e : z.h = x
              · have := HON.out z hz e
                subst this
                simp only [sameAs, List.any_eq_true, Bool.and_eq_true, beq_iff_eq]
                exact ⟨y, HY.out.1, by rw [HY.out.2, e], by simpa using HEV.out⟩
              · have hne : (Lit.int .u64 z.h).sameKey (.int .u64 x) = false := sameKey_ne (by simpa using e)
                rw [hne] at hl
                exact HA.out z hz (by simpa using hl)
            case measure => rw [(HRG1.out.kept (grown_of HT3.out) (by simp) (by simp)).left_eq, HRG.out.left_eq]; exact HLT.out
          | false =>
            have HR := Lib.hid (show sameSet A1.L A2.L = false by
              obtain ⟨q1, q2⟩ := HHX.out
              have : A1.L.all (sameAs A2.L) = false := by
                rw [List.all_eq_false]
                refine ⟨xb, List.mem_of_getElem? q1, ?_⟩
                intro hc
                simp only [sameAs, List.any_eq_true, Bool.and_eq_true, beq_iff_eq] at hc
                obtain ⟨z, hz, e, e2⟩ := hc
                have := HON2.out z hz (by rw [e, q2])
                subst this
                simp [e2] at hev
              unfold sameSet; rw [this, Bool.and_false])
            have HEV := Lib.hid hev
            clear hev
            go_wp2_with (go_at_call 47; (with_reducible refine (HCL.out _ (Frm.Turn.refl [] w1) false HEV.out).mono ?_); rintro e w3 ⟨rfl, hT3⟩; have HT3 := Lib.hid hT3; clear hT3)
            go_ret
            exact ⟨by rw [HR.out]; rfl, HTW.out.trans HT3.out (by simp)⟩
  · have hsz' : ((Maps.size D1 : Int) == (Maps.size D2 : Int)) = false := beq_eq_false_iff_ne.2 (by omega)
    have hsz2 : ((Maps.size D1 : Int) != (Maps.size D2 : Int)) = true := by rw [bne_iff_ne]; omega
    have HR := Lib.hid (show sameSet A1.L A2.L = false by
      have q1 := HS1.out
      have q2 := HS2.out
      unfold sameSet
      rw [show decide (A1.L.length = A2.L.length) = false by simp; omega, Bool.false_and])
    clear hsz
    go_enter Try.func46, Try.ntmps46
    go_wp2_with (first
      | (at_len; refine wpList_len_own _ rfl (.tmp 11) 79 rfl 29 42 mapU _ M1.m _ D1 rfl hown1 ?_)
      | (at_len; refine wpList_len_own _ rfl (.tmp 13) 79 rfl 29 42 mapU _ M2.m _ D2 rfl hown2 ?_))
    go_ret
    exact ⟨by rw [HR.out]; rfl, Frm.Turn.refl [] w⟩
end Arn
end Go.Proofs.Ytgjgoflkbcmgnaa
