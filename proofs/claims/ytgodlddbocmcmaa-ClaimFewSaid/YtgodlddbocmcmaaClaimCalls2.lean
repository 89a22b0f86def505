/- A claim's steps: take, lay. -/
import Derived.Test.YtgodlddbocmcmaaClaimCalls
set_option linter.unusedVariables false
set_option linter.unusedSimpArgs false
namespace Go.Proofs.Ytgodlddbocmcmaa
namespace Clm
open Go.RowKit Go.Maps Arn Pac

variable {w W W' : World} {r b n : Nat} {M : Mem} {A : Ar} {C : Cl} {g : Value}
theorem body_turn {W W' : World} {F : List Nat} {tok seg slot : Int} {own : Bool} {laid err : Int} (h : ClBody W r b g tok seg slot own laid err) (ht : Frm.Turn F W W') (hn : r ∉ F) : ClBody W' r b g tok seg slot own laid err := h.turn ht hn
set_option maxRecDepth 100000 in
set_option maxHeartbeats 1000000 in
theorem take_any (h : Sin w b M A n W) (hn : n ≤ 10000000) (hc : ClBody W r b g C.tok C.seg C.slot C.own C.laid C.err) (hr : r ∉ M.foot b) (hw : w.heap.size ≤ r) (hs : C.slot < 255) (ht : W64 C.tok) (hsg : W64 C.seg) (hz : C.seg ≠ 0) :
    Calls Try.prog 29 #[.pointer (some ⟨r, 0, none⟩)] W fun e w' => e = .returned (.tuple #[]) ∧
      ClAfter w b r M (A.swap C.seg (5 * ofN C.slot) 0 C.tok).1 (n + 1) (if (A.swap C.seg (5 * ofN C.slot) 0 C.tok).2.1 = true then { C with own := true, st := 0 } else ({ C with own := false } : Cl).turn (C.slot + 1)) W w' := by
  have hg := sg_facts hs
  have hz' : (C.seg != 0) = true := by simpa using hz
  have HWD := Lib.hid (fun W => Word_n C.seg C.slot W hs hz')
  have HRD := Lib.hid (fun W' (hT : Frm.Turn [] W W') => sin_swap (h.step hT) (by omega) C.seg (5 * (ofN C.slot : Int)) 0 C.tok hsg (wf_small (by omega) (by omega)) ht)
  obtain ⟨y, HY⟩ : ∃ y, Hid (y = 5 * (ofN C.slot : Int)) := ⟨_, Lib.hid rfl⟩
  rw [← HY.out] at HRD ⊢
  have HWD : Hid (∀ W, Calls Try.prog 40 #[.agg #[.int .u64 C.seg, .int .i64 C.slot], .int .i64 0] W fun e w' => e = .returned (.tuple #[.agg #[.int .u64 C.seg, .int .i64 y], .bool true]) ∧ Frm.Turn [] W w') := Lib.hid (fun W => by rw [HY.out]; exact HWD.out W)
  obtain ⟨val, HV⟩ : ∃ v, Hid (v = (A.swap C.seg y 0 C.tok).2.1) := ⟨_, Lib.hid rfl⟩
  obtain ⟨ee, HE⟩ : ∃ v, Hid (v = (A.swap C.seg y 0 C.tok).2.2) := ⟨_, Lib.hid rfl⟩
  obtain ⟨A', HA⟩ : ∃ v, Hid (v = (A.swap C.seg y 0 C.tok).1) := ⟨_, Lib.hid rfl⟩
  rw [← HV.out, ← HE.out, ← HA.out] at HRD
  rw [← HV.out, ← HA.out]
  have HC := Lib.hid hc
  have HR := Lib.hid hr
  have HW := Lib.hid hw
  have HS := Lib.hid hs
  obtain ⟨c0, c1, c2, c3, c4, c5, c6, c7⟩ := hc.cells
  have b0 : (0 : Int) ≤ (C.slot : Int) := by omega
  have b1 : (C.slot : Int) ≤ 254 := by omega
  clear h hc hr hw hs hg HV HE HA HY ht hsg hz hz'
  go_enter Try.func29, Try.ntmps29
  go_upto_region 1 with (go_at_call 40; (with_reducible refine (HWD.out _).mono ?_); rintro e w1 ⟨rfl, hT⟩; have HT1 := Lib.hid hT; clear hT)
  have hT2 : Frm.Turn [] W (w1.alloc (.cells #[.int .u64 C.seg, .int .i64 y] 39)) := HT1.out.alloc _
  have hn2 := World.alloc_heap_new w1 (.cells #[.int .u64 C.seg, .int .i64 y] 39)
  generalize w1.heap.size = k2 at hn2 ⊢
  generalize w1.alloc (.cells #[.int .u64 C.seg, .int .i64 y] 39) = W2 at hT2 hn2 ⊢
  have p0 : W2.cell? ⟨k2, 0, none⟩ = some (.int .u64 C.seg) := (Frm.cell_row _ _ 0 _ _ _ hn2).trans rfl
  have p1 : W2.cell? ⟨k2, 1, none⟩ = some (.int .i64 y) := (Frm.cell_row _ _ 1 _ _ _ hn2).trans rfl
  obtain ⟨d0, d1, d2, d3, d4, d5, d6, d7⟩ := (HC.out.turn hT2 (by simp)).cells
  have HT2 := Lib.hid (hT2.drew)
  clear hT2 hn2
  go_cut [] (fun W5 => ∃ W1 Wx, Frm.Turn [] W W1 ∧ After w b M A' (n + 1) W1 Wx ∧ W5 = Wx.setCell ⟨r, 5, none⟩ (.bool val))
  case first =>
    go_region_with (first
      | (go_at_call 41; (with_reducible refine (HRD.out _ HT2.out).mono ?_); rintro e w3 ⟨rfl, ha⟩; have HA2 := Lib.hid ha; have hb := body_after HR.out HC.out HT2.out ha; have m5 := hb.cells.2.2.2.2.2.1; have f5 := hb.thaw 5; clear hb ha))
    all_goals go_wp2_with fail
    all_goals go_meet
    all_goals exact ⟨_, _, HT2.out, HA2.out, rfl⟩
  case rest =>
    obtain ⟨W1, Wx, hT1, ha, rfl⟩ := hcut
    have hb := (body_after HR.out HC.out hT1 ha).set5 val
    have HT3 := Lib.hid hT1
    have HAF := Lib.hid ha
    have HB := Lib.hid hb
    obtain ⟨k0, k1, k2, k3, k4, k5, k6, k7⟩ := hb.cells
    cases val with
    | true =>
      have HE := Lib.hid (end_any r g (Wx.setCell ⟨r, 5, none⟩ (.bool true)) k0 (hb.thaw 0))
      have H0 := Lib.hid (hb.set0 .nilFunc)
      clear hb ha hT1
      go_wp2_with (go_at_call 25; (with_reducible refine (HE.out).mono ?_); rintro e w1 ⟨rfl, rfl⟩)
      refine bodyPost_ret (results_none rfl _ _ _) rfl ⟨rfl, ?_⟩
      exact after_of HR.out HC.out.lt HW.out HT3.out HAF.out (turn_set2 _ _ _ _ _ _) H0.out
    | false =>
      have HE : Hid (Calls Try.prog 20 #[.pointer (some ⟨r, 0, none⟩), .int .i64 ((C.slot : Int) + 1)] (Wx.setCell ⟨r, 5, none⟩ (.bool false)) fun e w' => e = .returned (.tuple #[]) ∧ ClAt w' r b (({ C with own := false } : Cl).turn (C.slot + 1)) ∧ Frm.Turn [r] (Wx.setCell ⟨r, 5, none⟩ (.bool false)) w') := Lib.hid (by
        have := turn_any (C := { C with own := false }) hb (C.slot + 1) (by have := HS.out; omega)
        rw [show ((C.slot + 1 : Nat) : Int) = (C.slot : Int) + 1 by omega] at this
        exact this)
      clear hb ha hT1
      go_wp2_with (go_at_call 20; (with_reducible refine (HE.out).mono ?_); rintro e w1 ⟨rfl, hb, hT⟩)
      go_end0
      exact ⟨rfl, after_of HR.out HC.out.lt HW.out HT3.out HAF.out ((turn_set _ _ _ _).trans hT (fun k hk => .inl hk)) hb⟩
/-- A block of noughts that was just made. -/
theorem noughts (n : Nat) (W : World) (t : TypeId) : WordsAt (W.alloc (.cells (madeCells #[.int .u64 0] n) t)) (.slice (some ⟨W.heap.size, 0, none⟩) n n) (List.replicate n 0) := by
  refine .inr ⟨⟨W.heap.size, 0, none⟩, n, by simp, fun j u hu => ?_⟩
  have h := World.alloc_heap_new W (.cells (madeCells #[.int .u64 0] n) t)
  have ha : (⟨W.heap.size, 0, none⟩ : Addr).add j = ⟨W.heap.size, j, none⟩ := by unfold Addr.add; split <;> simp_all
  rw [ha, Frm.cell_row _ _ _ _ _ _ h, ← Array.getElem?_toList, toList_madeCells_one]
  simp [u64s] at hu
  simpa using hu
theorem made_words (n : Nat) (hn : n ≤ 60000) (w : World) : (Instr.makeSlice 44 (.int .i64 (n : Int)) (.int .i64 (n : Int))).run Try.prog w = .ok (.slice (some ⟨w.heap.size, 0, none⟩) n n) (w.alloc (.cells (madeCells #[.int .u64 0] n) 32)) := by
  obtain ⟨i, h1, h2, h3, h4⟩ := info_parts info_u64
  have hr := run_make (P := Try.prog) w 44 32 i (.int .u64 0) under_u64s h1 h2 .i64 .i64 n n (by omega) (by omega) (by rw [h4]; omega) (by omega)
  simp only [Int.toNat_natCast, h3, Nat.mul_one] at hr
  exact hr
set_option maxRecDepth 100000 in
set_option maxHeartbeats 1000000 in
theorem lay_any (h : Sin w b M A n W) (hn : n ≤ 10000000) (hc : ClBody W r b g C.tok C.seg C.slot C.own C.laid C.err) (hr : r ∉ M.foot b) (hw : w.heap.size ≤ r) (hs : C.slot < 255) :
    Calls Try.prog 38 #[.pointer (some ⟨r, 0, none⟩)] W fun e w' => e = .returned (.tuple #[]) ∧
      ClAfter w b r M (A.lay (List.replicate (7 * 2 ^ sgN C.slot) 0)).1 (n + 1) (if (A.lay (List.replicate (7 * 2 ^ sgN C.slot) 0)).2.2 = 0 then { C with laid := (A.lay (List.replicate (7 * 2 ^ sgN C.slot) 0)).2.1, st := 3 } else { C with err := (A.lay (List.replicate (7 * 2 ^ sgN C.slot) 0)).2.2, st := 0 }) W w' := by
  have hg := sg_facts hs
  have HSG := Lib.hid (segment_any hc hs)
  have HSZ := Lib.hid (fun W => Size_n (sgN C.slot) W hg.1)
  have hm := fun w => made_words (7 * 2 ^ sgN C.slot) (by omega) w
  have HLY := Lib.hid (sin_lay (v := .slice (some ⟨W.heap.size, 0, none⟩) (7 * 2 ^ sgN C.slot) (7 * 2 ^ sgN C.slot)) (ws := List.replicate (7 * 2 ^ sgN C.slot) 0) (h.step ((Frm.Turn.refl [] W).alloc (.cells (madeCells #[.int .u64 0] (7 * 2 ^ sgN C.slot)) 32))) (by omega) (noughts _ W _) (fun _ k hk hk' => by
    simp [Value.ownBlock] at hk; subst hk; have := h.lt hk'; omega) (fun x hx => by rw [(List.mem_replicate.1 hx).2]; exact w64_zero))
  generalize 7 * 2 ^ sgN C.slot = z at HSZ hm HLY ⊢
  generalize hzg : (sgN C.slot : Int) = zg at HSG HSZ
  obtain ⟨val, HV⟩ : ∃ v, Hid (v = (A.lay (List.replicate z 0)).2.1) := ⟨_, Lib.hid rfl⟩
  obtain ⟨ee, HE⟩ : ∃ v, Hid (v = (A.lay (List.replicate z 0)).2.2) := ⟨_, Lib.hid rfl⟩
  obtain ⟨A', HA⟩ : ∃ v, Hid (v = (A.lay (List.replicate z 0)).1) := ⟨_, Lib.hid rfl⟩
  rw [← HV.out, ← HE.out, ← HA.out] at HLY
  rw [← HV.out, ← HE.out, ← HA.out]
  have HC := Lib.hid hc
  have HR := Lib.hid hr
  have HW := Lib.hid hw
  have HT1 := Lib.hid ((Frm.Turn.refl [] W).alloc (.cells (madeCells #[.int .u64 0] z) 32))
  obtain ⟨c0, c1, c2, c3, c4, c5, c6, c7⟩ := hc.cells
  have d1 := (HC.out.turn HT1.out (by simp)).cells.2.1
  clear h hc hr hw hs hg HV HE HA hzg
  have hmk := hmf
  go_enter Try.func38, Try.ntmps38
  go_upto_region 2 with (first
    | (go_at_call 46; (with_reducible refine (HSG.out).mono ?_); rintro e w1 ⟨rfl, rfl⟩)
    | (go_at_call 47; (with_reducible refine (HSZ.out _).mono ?_); rintro e w1 ⟨rfl, rfl⟩)
    | (go_at_call 48; (with_reducible refine (HLY.out).mono ?_); rintro e w1 ⟨rfl, ha⟩; have HAF := Lib.hid ha; have hb := body_after HR.out HC.out HT1.out ha; have HB := Lib.hid hb; obtain ⟨k0, k1, k2, k3, k4, k5, k6, k7⟩ := hb.cells; have g6 := hb.thaw 6; clear hb ha))
  by_cases hv : ee = 0
  · have hv' : (ee != 0) = false := by simpa using hv
    have h6 := HB.out.set6 val
    have HE := Lib.hid (to_any r (nx r 3) g (w1.setCell ⟨r, 6, none⟩ (.int .u64 val)) (nx_fn _ _) h6.cells.1 (h6.thaw 0))
    have e5 : nx r 3 = .func (.func 49) #[.pointer (some ⟨r, 0, none⟩)] #[] := rfl
    have H0 := Lib.hid (h6.set0 (nx r 3))
    rw [e5] at HE
    have HVV := Lib.hid hv
    clear e5 h6 hv
    go_wp2_with (go_at_call 27; (with_reducible refine (HE.out).mono ?_); rintro e w1 ⟨rfl, rfl⟩)
    go_end0
    first | rw [if_pos HVV.out] | skip
    exact ⟨rfl, after_of HR.out HC.out.lt HW.out HT1.out HAF.out (turn_set2 _ _ _ _ _ _) H0.out⟩
  · have hv' : (ee != 0) = true := by simpa using hv
    have HE := Lib.hid (fail_any HB.out ee)
    have HVV := Lib.hid hv
    clear hv
    go_wp2_with (go_at_call 19; (with_reducible refine (HE.out).mono ?_); rintro e w1 ⟨rfl, hb, hT⟩)
    refine bodyPost_ret (results_none rfl _ _ _) rfl ⟨rfl, ?_⟩
    first | rw [if_neg HVV.out] | skip
    exact after_of HR.out HC.out.lt HW.out HT1.out HAF.out hT hb
end Clm
end Go.Proofs.Ytgodlddbocmcmaa
