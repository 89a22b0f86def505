/- The document's Run of a collect, walked. -/
import Derived.Test.YtfbnidjcimcfoaaGreatCollBelow
set_option linter.unusedVariables false
set_option linter.unusedSimpArgs false
namespace Go.Proofs.YtfbnidjcimcfoaaGreat
namespace Col
open Go.RowKit Go.Maps Arn Pac Clm Cnt Evn
variable {W0 W W' : World} {lv0 : Value} {G0 : List Nat} {eb : Nat} {Bs : List Nat} {P P' : En} {CS : Array Value} {lv : Value} {G : List Nat} {A A' : Ar} {L : List Res} {r : Res}
/-- What a run ends with. -/
def RunO (A A' : Ar) (L : List Res) (r : Res) (W : World) (lv : Value) (G : List Nat) (eb : Nat) (e : Ending) (w' : World) : Prop :=
  ∃ v, e = .returned (.agg (gotO v (coAt L r (L.length + 1)).m)) ∧ w'.ownsRow 0 46 2 v (coAt L r (L.length + 1)).L.length (plCells (coAt L r (L.length + 1)).L) ∧ v.ownBlock ≠ some eb ∧
    EnvB W lv G eb [] (plcE A A' L r (if (coAt L r (L.length + 1)).ph = 2 then L.length + 1 else L.length + 2)) w'
theorem run_end {gc : Array Value} {v : Value} {m j : Nat} {l : List Nat} {F : List Nat} {W3 W4 : World} (hgc : gc = gotO v m) (hE : EnvB W lv G eb Bs (plcE A A' L r j) W3) (ht : Frm.Turn F W3 W4) (hF : ∀ k, k ∈ F → k ∈ Bs) (hm : (coAt L r (L.length + 1)).m = m) (hl : (coAt L r (L.length + 1)).L = l) (hj : j = if (coAt L r (L.length + 1)).ph = 2 then L.length + 1 else L.length + 2) (hrow : W4.ownsRow 0 46 2 v l.length (plCells l)) (hve : v.ownBlock ≠ some eb) :
    RunO A A' L r W lv G eb (.returned (.agg gc)) W4 := ⟨v, by rw [hgc, hm], by rw [hl]; exact hrow, hve, by rw [← hj]; exact (hE.poke ht hF).drop⟩
/-- At the loop's head. -/
def RunI (A A' : Ar) (L : List Res) (r : Res) (W : World) (lv : Value) (G : List Nat) (eb g : Nat) (wr : World) : Prop :=
  ∃ i v, i ≤ L.length + 1 ∧ (coAt L r i).ph = 0 ∧ (coAt L r i).g = g ∧ (coAt L r i).m = g ∧
    wr.heap[W.heap.size + 1]? = some (.cells (gotO v g) 87 (0, 0)) ∧ wr.heap[W.heap.size]? = some (.cells (gotO (.slice none 0 0) 0) 87 (0, 0)) ∧
    wr.ownsRow 0 46 2 v (coAt L r i).L.length (plCells (coAt L r i).L) ∧ v.ownBlock ≠ some eb ∧ EnvB W lv G eb [W.heap.size + 1, W.heap.size] (plcE A A' L r i) wr
theorem go_0 {C Cj : Co} {g x : Nat} {l : List Nat} (hg : C.g = g) (h4 : g < 4) (hj : Cj = ({ C with L := l, node := x } : Co).go 0) : Cj.ph = 0 ∧ Cj.g = g + 1 ∧ Cj.m = C.m ∧ Cj.L = l := by
  subst hj
  unfold Co.go
  rw [if_pos rfl, if_pos (by show C.g + 1 < 8; omega)]
  exact ⟨rfl, by show C.g + 1 = g + 1; rw [hg], rfl, rfl⟩
theorem beh_1 : behN 1 = 0 := by decide
theorem zero_got : (#[.slice none 0 0, .int .u64 0, .int .u64 0, .int .u64 0, .int .u64 0, .int .u64 0, .int .u64 0, .int .u64 0, .int .u64 0] : Array Value) = gotO (.slice none 0 0) 0 := rfl
set_option maxRecDepth 100000 in
set_option maxHeartbeats 16000000 in
theorem runO_any (R : GoesO A A' L r) (lA : LimA A) (lA' : LimA A') {CS : Array Value} (hE : EnAt W eb (plcE A A' L r 0) CS lv G) :
    Calls Tryz.prog 35 #[.pointer (some ⟨eb, 0, none⟩)] W (RunO A A' L r W lv G eb) := by
  obtain ⟨fs, hfs⟩ := struct_of under_got
  have HFS := Lib.hid hfs
  obtain ⟨z, hz⟩ : ∃ z, z = gotO (.slice none 0 0) 0 := ⟨_, rfl⟩
  have HZ := Lib.hid hz
  obtain ⟨T0, b0, b1⟩ := two_boxes13 W (.cells z 87) (.cells z 87)
  have hB0 := ((envB_start hE).add ((Frm.Turn.refl [] W).alloc (.cells z 87)) (Nat.le_refl _) (by simp)).add ((Frm.Turn.refl [] _).alloc (.cells z 87)) (x := W.heap.size + 1) (by simp) (by simp)
  have HB0 := Lib.hid hB0
  have HRR := Lib.hid R
  clear hfs R
  have HS0 : Hid (RunI A A' L r W lv G eb 0 ((W.alloc (.cells z 87)).alloc (.cells z 87))) := Lib.hid (by
    refine ⟨0, .slice none 0 0, by omega, rfl, rfl, rfl, by rw [HZ.out] at b1 ⊢; exact b1, by rw [HZ.out] at b0 ⊢; exact b0, World.ownsRow_nil _ 0 _ _, by simp [Value.ownBlock], HB0.out⟩)
  have HB1 : Hid (∀ k, k ∈ [W.heap.size] → k ∈ [W.heap.size + 1, W.heap.size]) := Lib.hid (by simp)
  have HB2 : Hid (∀ k, k ∈ [W.heap.size + 1] → k ∈ [W.heap.size + 1, W.heap.size]) := Lib.hid (by simp)
  have HLT := Lib.hid hE.lt
  have hgE : W.heap.size ∉ [eb] := by have := HLT.out; simp; omega
  have hrE : W.heap.size + 1 ∉ [eb] := by have := HLT.out; simp; omega
  clear hz T0 b0 b1 hB0 hE HB0
  go_enter Tryz.func35, Tryz.ntmps35
  go_upto_region 2 with fail
  rw [zero_got, ← HZ.out]
  generalize World.alloc (World.alloc _ _) _ = W1 at HS0 ⊢
  go_wp2_with fail
  go_loopw [4] (fun i wr => ∃ g : Nat, i = .int .i64 g ∧ RunI A A' L r W lv G eb g wr) (fun i _ => 8 - (intOf i).toNat)
  case atStart => exact ⟨0, rfl, HS0.out⟩
  case round =>
    obtain ⟨g, rfl, i, v, hi, hph, hg, hm, hgb, hrb, hrow, hve, hE⟩ := hrel
    clear HS0
    have F := co_fit HRR.out i hi
    have hg4 : g ≤ 4 := by rw [← hg]; exact F.gn
    have hlt : (g : Int) < 8 := by omega
    have h0g : (0 : Int) ≤ (g : Int) := by omega
    have hg15 := fit_len F
    obtain ⟨gc, hgc⟩ : ∃ gc, gc = gotO v g := ⟨_, rfl⟩
    rw [← hgc] at hgb
    have c0 : wr.cell? ⟨W.heap.size + 1, 1 + g, none⟩ = some (.int .u64 (sv g g)) := (Frm.cell_row _ _ _ _ _ _ hgb).trans (by rw [hgc]; exact got_seg v g (by omega))
    have HGC := Lib.hid hgc
    have HSC : Hid ((Tryz.prog.info? 87).map (·.size) = some gc.size) := Lib.hid (by rw [hgc]; exact info_got)
    have HZC : Hid (gc.size = 9) := Lib.hid (by rw [hgc]; rfl)
    have HOC : Hid (gc.all (·.oneCell') = true) := Lib.hid (by rw [hgc]; exact got_one g (row_one hrow))
    have HGB := Lib.hid hgb
    have HRB := Lib.hid hrb
    have HROW := Lib.hid hrow
    have HVE := Lib.hid hve
    have HC0 := Lib.hid c0
    have HI := Lib.hid (And.intro hi (And.intro hph (And.intro hg (And.intro hm (And.intro hg4 hg15)))))
    have HRD := Lib.hid (co_read HRR.out lA lA' hE hi 0 (1 + (g : Int)) (.inl ⟨hph, rfl, by rw [hg]⟩))
    have HVL : Hid (∀ q, v.ownBlock = some q → q ≠ eb) := Lib.hid (fun q hq e => hve (by rw [← e]; exact hq))
    clear hi hph hg hm hgb hrb hrow hve hE F hgc c0 hg15
    go_upto_region 6 with (go_at_call 60; (with_reducible refine HRD.out.mono ?_); rintro e w2 ⟨rfl, hE2, hT⟩; have HE2 := Lib.hid hE2; have HT2 := Lib.hid hT; clear hE2 hT)
    have HG2 := Lib.hid (HT2.out.keep HGB.out hrE)
    have HR2 := Lib.hid (HT2.out.keep HRB.out hgE)
    have HW2 := Lib.hid (Frm.owns_turn HROW.out HT2.out (fun q hq => by simpa using HVL.out q hq))
    have s3 := HE2.out.stop
    rw [plc_stop] at s3
    by_cases hN : i = L.length + 1
    · have st : decide (L.length + 2 ≤ i + 1) = true := decide_eq_true (by omega)
      rw [st] at s3
      have HN := Lib.hid hN
      clear hN st
      go_wp2_with (first
        | (refine wpList_load_row rfl 87 (.tmp 3) rfl (W.heap.size + 1) rfl 87 gc (0, 0) (.struct fs) HG2.out HFS.out rfl HSC.out ?_)
        | (refine wpList_store_row rfl 87 (.tmp 2) (.tmp 24) rfl W.heap.size gc rfl rfl 87 _ HR2.out HSC.out (by rw [HZC.out]; rfl) HOC.out ?_))
      obtain ⟨hi, hph, hg, hm, hg4', hg15⟩ := HI.out
      have hN := HN.out
      refine bodyPost_ret (v := .agg gc) (results_cell_row rfl _ _ W.heap.size 87 gc (0, 0) (.struct fs) rfl (row_set gc HR2.out) HFS.out rfl HSC.out) rfl ?_
      refine run_end HGC.out HE2.out (setRow_turn (F := [W.heap.size]) (Frm.Turn.refl _ _) (.inl (by simp)) gc) HB1.out (by rw [← hN]; exact hm) (by rw [← hN]) (by rw [← hN, if_neg (by omega), hN]) (row_put HW2.out HR2.out gc) HVE.out
    · have st : decide (L.length + 2 ≤ i + 1) = false := decide_eq_false (by have := HI.out.1; omega)
      rw [st] at s3
      have HN : Hid (i ≤ L.length) := Lib.hid (by have := HI.out.1; omega)
      have HNX := Lib.hid (co_succ L r HN.out)
      have HGO := Lib.hid ((HRR.out.good i HN.out).seg HI.out.2.1)
      clear hN st
      obtain ⟨wv, HWV⟩ : ∃ wv : Int, Hid (wv = (ansE L r i).w) := ⟨_, Lib.hid rfl⟩
      rw [← HWV.out]
      by_cases hw : wv = 0
      · have hw' : (wv == 0) = true := by simpa using hw
        have HW := Lib.hid hw
        clear hw
        go_wp2_with (first
          | (refine wpList_load_row rfl 87 (.tmp 3) rfl (W.heap.size + 1) rfl 87 gc (0, 0) (.struct fs) HG2.out HFS.out rfl HSC.out ?_)
          | (refine wpList_store_row rfl 87 (.tmp 2) (.tmp 24) rfl W.heap.size gc rfl rfl 87 _ HR2.out HSC.out (by rw [HZC.out]; rfl) HOC.out ?_))
        obtain ⟨hi, hph, hg, hm, hg4', hg15⟩ := HI.out
        have hX : coAt L r (i + 1) = { coAt L r i with ph := 2 } := by
          rw [HNX.out]
          unfold Co.next
          rw [if_pos hph, if_pos (by rw [← HWV.out]; exact HW.out)]
        have hN : i = L.length := by
          have := HN.out
          by_cases h : i + 1 ≤ L.length
          · exact absurd (by rw [hX]) (HRR.out.good (i + 1) h).on
          · omega
        rw [hN] at hX
        refine bodyPost_ret (v := .agg gc) (results_cell_row rfl _ _ W.heap.size 87 gc (0, 0) (.struct fs) rfl (row_set gc HR2.out) HFS.out rfl HSC.out) rfl ?_
        refine run_end HGC.out HE2.out (setRow_turn (F := [W.heap.size]) (Frm.Turn.refl _ _) (.inl (by simp)) gc) HB1.out (by rw [hX, ← hN]; exact hm) (by rw [hX, ← hN]) (by rw [hX, if_pos rfl, hN]) (row_put HW2.out HR2.out gc) HVE.out
      · have hw' : (wv == 0) = false := by simpa using hw
        have HG3 : Hid (g < 4) := Lib.hid (by
          have h1 := HGO.out
          rw [HI.out.2.2.1, ← HWV.out] at h1
          by_cases h : g < 4
          · exact h
          · rw [if_neg h] at h1; exact absurd h1 hw)
        have HHS : Hid (wv = Cnt.hS g) := Lib.hid (by
          have h1 := HGO.out
          rw [HI.out.2.2.1, ← HWV.out, if_pos HG3.out] at h1
          exact h1)
        have HX1 : Hid (coAt L r (i + 1) = { coAt L r i with ph := 1, node := 1, m := g + 1 }) := Lib.hid (by
          obtain ⟨hi, hph, hg, hm, hg4', hg15⟩ := HI.out
          rw [HNX.out]
          unfold Co.next
          have hb : (coAt L r i).g + 1 = g + 1 := by rw [hg]
          rw [if_pos hph, if_neg (by rw [← HWV.out]; exact hw), hb])
        clear hw
        have c2 : w2.cell? ⟨W.heap.size + 1, 1 + g, none⟩ = some (.int .u64 (sv g g)) := HT2.out.cell HC0.out hrE
        have f2 : w2.frozen? ⟨W.heap.size + 1, 1 + g, none⟩ = false := Frm.frozen_row _ _ _ _ _ HG2.out
        go_upto_region 9 with fail
        clear c2 f2
        have HT3 : Hid (Frm.Turn [W.heap.size + 1] w2 (w2.setCell ⟨W.heap.size + 1, 1 + g, none⟩ (.int .u64 wv))) := Lib.hid (turn_set w2 _ _ _)
        obtain ⟨gd, hgd⟩ : ∃ gd, gd = gotO v (g + 1) := ⟨_, rfl⟩
        have HG3b : Hid ((w2.setCell ⟨W.heap.size + 1, 1 + g, none⟩ (.int .u64 wv)).heap[W.heap.size + 1]? = some (.cells gd 87 (0, 0))) := Lib.hid (by
          rw [Frm.heap_set _ _ _ _ _ _ _ HG2.out, HGC.out, HHS.out, got_putS v (by have := HG3.out; omega), hgd])
        have HR3 := Lib.hid (HT3.out.keep HR2.out (by simp))
        have HW3 : Hid ((w2.setCell ⟨W.heap.size + 1, 1 + g, none⟩ (.int .u64 wv)).ownsRow 0 46 2 v (coAt L r i).L.length (plCells (coAt L r i).L)) := Lib.hid (Frm.owns_turn HW2.out HT3.out (fun q hq hm => by simp only [List.mem_singleton] at hm; subst hm; exact row_ne HW2.out HG2.out hq))
        have HE3 := Lib.hid (HE2.out.poke HT3.out HB2.out)
        generalize World.setCell w2 _ _ = w3 at HT3 HG3b HR3 HW3 HE3 ⊢
        have HGD := Lib.hid hgd
        have HSD : Hid ((Tryz.prog.info? 87).map (·.size) = some gd.size) := Lib.hid (by rw [hgd]; exact info_got)
        have HZD : Hid (gd.size = 9) := Lib.hid (by rw [hgd]; rfl)
        have HOD : Hid (gd.all (·.oneCell') = true) := Lib.hid (by rw [hgd]; exact got_one (g + 1) (row_one HW3.out))
        clear hgd
        obtain ⟨CS1, lv1, G1, hE1, hcomp⟩ := HE3.out.comp
        have HCALL : Hid (Calls Tryz.prog 76 #[.pointer (some ⟨eb, 0, none⟩), .agg gd, .int .i64 g, .int .i64 1] w3 (BelPost A A' L r (i + 1) 1 (g + 1) w3 lv1 G1 eb)) := Lib.hid (by
          obtain ⟨hi, hph, hg, hm, hg4', hg15⟩ := HI.out
          rw [HGD.out]
          have hX := HX1.out
          exact below_any HRR.out lA lA' g (i + 1) w3 CS1 lv1 G1 v g 1 (g + 1) hE1 (by have := HN.out; omega) (by rw [hX]) (by rw [hX]; exact hg) (by rw [hX]) (by rw [hX]) (by rw [hX]; exact HW3.out) HVE.out (by omega))
        have HCMP := Lib.hid hcomp
        clear hE1 hcomp
        go_upto_region 10 with (first
          | (refine wpList_load_row rfl 87 (.tmp 3) rfl (W.heap.size + 1) rfl 87 gd (0, 0) (.struct fs) HG3b.out HFS.out rfl HSD.out ?_)
          | (go_at_call 76; (with_reducible refine HCALL.out.mono ?_); rintro e w4 ⟨j, v1, lj, rfl, hij, hok, hrow1, hve1, hlj, hE4⟩; obtain ⟨ge, hge⟩ : ∃ ge, ge = gotO v1 (g + 1) := ⟨_, rfl⟩; rw [← hge]; obtain ⟨hE5, hT4⟩ := HCMP.out _ _ hE4; have HG4 := Lib.hid (hT4.keep HG3b.out hrE); have HR4 := Lib.hid (hT4.keep HR3.out hgE); have HGE := Lib.hid hge; have HSE : Hid ((Tryz.prog.info? 87).map (·.size) = some ge.size) := Lib.hid (by rw [hge]; exact info_got); have HZE : Hid (ge.size = 9) := Lib.hid (by rw [hge]; rfl); have HOE : Hid (ge.all (·.oneCell') = true) := Lib.hid (by rw [hge]; exact got_one (g + 1) (row_one hrow1)); have HE4 := Lib.hid hE5; have HRW := Lib.hid hrow1; have HVE1 := Lib.hid hve1; have HOK := Lib.hid hok; clear hge hE4 hE5 hT4 hrow1 hve1 hlj hok hij)
          | (refine wpList_store_row rfl 87 (.tmp 3) (.tmp 32) rfl (W.heap.size + 1) ge rfl rfl 87 _ HG4.out HSE.out (by rw [HZE.out, HZD.out]) HOE.out ?_))
        have HG5 := Lib.hid (row_set ge HG4.out)
        have HT5 : Hid (Frm.Turn [W.heap.size + 1] w4 (w4.setRow (W.heap.size + 1) ge)) := Lib.hid (setRow_turn (Frm.Turn.refl _ w4) (.inl (by simp)) ge)
        have HR5 := Lib.hid (HT5.out.keep HR4.out (by simp))
        have HE5 := Lib.hid (HE4.out.poke HT5.out HB2.out)
        have HRW5 := Lib.hid (row_put HRW.out HG4.out ge)
        have s5 := HE5.out.stop
        generalize w4.setRow (W.heap.size + 1) ge = w5 at HG5 HT5 HR5 HE5 HRW5 s5 ⊢
        rw [plc_stop] at s5
        rcases HOK.out with ⟨hjl, hk2, hll, hmm⟩ | ⟨hjl, x, hcj⟩
        · have st : decide (L.length + 2 ≤ j) = true := decide_eq_true (by omega)
          rw [st] at s5
          have HEND := Lib.hid (And.intro hjl (And.intro hk2 (And.intro hll hmm)))
          clear st hjl hk2 hll hmm
          go_wp2_with (first
            | (refine wpList_load_row rfl 87 (.tmp 3) rfl (W.heap.size + 1) rfl 87 ge (0, 0) (.struct fs) HG5.out HFS.out rfl HSE.out ?_)
            | (refine wpList_store_row rfl 87 (.tmp 2) (.tmp 37) rfl W.heap.size ge rfl rfl 87 _ HR5.out HSE.out (by rw [HZE.out]; rfl) HOE.out ?_))
          obtain ⟨hjl, hk2, hll, hmm⟩ := HEND.out
          refine bodyPost_ret (v := .agg ge) (results_cell_row rfl _ _ W.heap.size 87 ge (0, 0) (.struct fs) rfl (row_set ge HR5.out) HFS.out rfl HSE.out) rfl ?_
          refine run_end HGE.out HE5.out (setRow_turn (F := [W.heap.size]) (Frm.Turn.refl _ _) (.inl (by simp)) ge) HB1.out (by rw [hmm, HX1.out]) hll.symm (by rw [if_neg hk2]; exact hjl) (row_put HRW5.out HR5.out ge) HVE1.out
        · have st : decide (L.length + 2 ≤ j) = false := decide_eq_false (by omega)
          rw [st] at s5
          have HJL := Lib.hid hjl
          have HGO0 := Lib.hid (go_0 (Cj := coAt L r j) (C := coAt L r (i + 1)) (g := g) (by rw [HX1.out]; exact HI.out.2.2.1) HG3.out (l := lj) (x := x) (by rw [beh_1] at hcj; exact hcj))
          clear st hjl hcj
          go_wp2_with fail
          obtain ⟨h1, h2, h3, h4⟩ := HGO0.out
          refine ⟨⟨g + 1, by simp, j, v1, HJL.out, h1, h2, by rw [h3, HX1.out], by rw [← HGE.out]; exact HG5.out, HR5.out, by rw [h4]; exact HRW5.out, HVE1.out, HE5.out⟩, ?_⟩
          simp [intOf]; omega
end Col
end Go.Proofs.YtfbnidjcimcfoaaGreat
