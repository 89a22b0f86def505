/- The walk of law LeastPlays. -/
import Derived.Test.YtnifdbmhpkkgfaaLeastMany
import Derived.Test.YtnifdbmhpkkgfaaLeastGrow
import Derived.Test.YtnifdbmhpkkgfaaLeastHoldsWalk
import Derived.Deep.RegionHeld3
import Derived.Deep.DrawnRows
import Derived.Deep.DeepCutAuto
set_option linter.unusedVariables false
set_option linter.unusedSimpArgs false
namespace Go.Proofs.Ytnifdbmhpkkgfaa
namespace Lst
open Go.RowKit Hp

def PlaysRel (w0 : World) (len most : Nat) (va vw i : Value) (wr : World) : Prop :=
  ∃ (k : Nat) (st : List One) (ga ca gw cw : Nat), k ≤ len ∧ i = .int .i64 (k : Int) ∧ va = .slice (some ⟨ga, 0, none⟩) st.length ca ∧ vw = .slice (some ⟨gw, 0, none⟩) st.length cw ∧ Many w0 wr most st ga ca gw cw ∧ ∀ (j : Nat) (x : One), st[j]? = some x → Agree most x

theorem at_set {α : Type} {l : List α} {i : Nat} {x y : α} (h : l[i]? = some x) : (l.set i y)[i]? = some y := by
  have hi : i < l.length := (List.getElem?_eq_some_iff.1 h).1
  rw [List.getElem?_set, if_pos rfl, if_pos hi]
/-- The document's answer, written back. -/
theorem plays_store {w0 wr w3 : World} {most : Nat} {st : List One} {ga ca gw cw i : Nat} {o : One} {v' : Value} {l' : List Nat} (h : Many w0 wr most st ga ca gw cw) (h3 : Many w0 w3 most st ga ca gw cw) (hx : st[i]? = some o)
    (hl : LAt w3 v' l') (hf : ∀ k, v'.ownBlock = some k → wr.heap.size ≤ k) (high' : Nat) :
    Many w0 (((w3.setCell ⟨gw, i * 3, none⟩ (.int .i64 (most : Int))).setCell ⟨gw, i * 3 + 1, none⟩ (.int .i64 (high' : Int))).setCell ⟨gw, i * 3 + 2, none⟩ v') most (st.set i { o with high := high', v := v', l := l' }) ga ca gw cw :=
  h3.store hx hl (fun k hk => by
    have h1 := hf k hk
    have h2 := h.turn.size
    obtain ⟨l1, l2⟩ := h.lt
    refine ⟨by omega, by omega, by omega, fun j y hy hc => ?_⟩
    have := (h.each j y hy).stock.lt k hc
    omega)

theorem agree_set {most : Nat} {st : List One} (h : ∀ (j : Nat) (x : One), st[j]? = some x → Agree most x) (i : Nat) (y : One) (hy : Agree most y) : ∀ (j : Nat) (x : One), (st.set i y)[j]? = some x → Agree most x := fun j x hx => by
  rcases get_set hx with ⟨_, rfl⟩ | ⟨_, hx1⟩
  · exact hy
  · exact h j x hx1
/-- What was there, written back. -/
theorem plays_same {w0 w3 : World} {most : Nat} {st : List One} {ga ca gw cw i : Nat} {o : One} (h3 : Many w0 w3 most st ga ca gw cw) (hx : st[i]? = some o) :
    Many w0 (((w3.setCell ⟨gw, i * 3, none⟩ (.int .i64 (most : Int))).setCell ⟨gw, i * 3 + 1, none⟩ (.int .i64 (o.high : Int))).setCell ⟨gw, i * 3 + 2, none⟩ o.v) most (st.set i o) ga ca gw cw :=
  h3.store hx (h3.each i o hx).list (fun k hk => by
    obtain ⟨h1, h2, h4⟩ := (h3.each i o hx).far k hk
    exact ⟨h1, h2, h4, fun j y hy => h3.side j i y o hy hx k hk⟩)

/-- What stands behind the document's Give: its answer, in a new variable at s21, and whether the number was in use, in s22. -/
def GiveCut (w : World) (B most high : Nat) (l : List Nat) (z : Int) (s21 s22 : Value) (W : World) : Prop :=
  ∃ (g : Nat) (ao : Option Addr) (c : Nat), s21 = .pointer (some ⟨g, 0, none⟩) ∧ s22 = .bool (hasB l z) ∧ RCells W g (.int .i64 (most : Int)) (.int .i64 (high : Int)) (.slice ao (strike l z).length c) ∧
    LAt W (.slice ao (strike l z).length c) (strike l z) ∧ (∀ k, (Value.slice ao (strike l z).length c).ownBlock = some k → B ≤ k) ∧ Frm.Turn [] w W
theorem give_box {w w3 : World} (h : Frm.Turn [] (w.alloc (.cells #[.int .i64 0, .int .i64 0, .slice none 0 0] 37)).drew w3) : RCells w3 w.heap.size (.int .i64 0) (.int .i64 0) (.slice none 0 0) :=
  rcells_of (h.keep (heap_alloc_new w _) (by simp))

theorem give_cut1 {w W0 w3 : World} {B most high : Nat} {l : List Nat} {z : Int} {ao : Option Addr} {c : Nat} (hT : Frm.Turn [] w w3) (hl : LAt w3 (.slice ao (strike l z).length c) (strike l z)) (hf : ∀ k, (Value.slice ao (strike l z).length c).ownBlock = some k → W0.heap.size ≤ k) (hB : B ≤ W0.heap.size) :
    GiveCut w B most high l z (.pointer (some ⟨w3.heap.size, 0, none⟩)) (.bool (hasB l z)) (w3.alloc (.cells #[.int .i64 (most : Int), .int .i64 (high : Int), .slice ao (strike l z).length c] 37)) :=
  ⟨_, ao, c, rfl, rfl, rcells_of (heap_alloc_new w3 _), hl.turn ((Frm.Turn.refl [] w3).alloc _) (by simp), fun k hk => Nat.le_trans hB (hf k hk), hT.alloc _⟩
theorem give_cut2 {w W0 w3 : World} {B g g' most high : Nat} {l : List Nat} {z : Int} {ao : Option Addr} {c : Nat} (hT : Frm.Turn [] w w3) (hg : w3.heap[g']? = some (.cells #[.int .i64 0, .int .i64 0, .slice none 0 0] 37))
    (hl : LAt w3 (.slice ao (strike l z).length c) (strike l z)) (hf : ∀ k, (Value.slice ao (strike l z).length c).ownBlock = some k → W0.heap.size ≤ k) (hB : B ≤ W0.heap.size) (he : g' = g ∧ g < W0.heap.size) (hw : w.heap.size ≤ g) :
    GiveCut w B most high l z (.pointer (some ⟨g, 0, none⟩)) (.bool (hasB l z)) (((w3.setCell ⟨g, 0, none⟩ (.int .i64 (most : Int))).setCell ⟨g, 1, none⟩ (.int .i64 (high : Int))).setCell ⟨g, 2, none⟩ (.slice ao (strike l z).length c)) := by
  obtain ⟨rfl, hlt⟩ := he
  have h1 := Frm.heap_set w3 g' 0 _ _ _ (.int .i64 (most : Int)) hg
  have h2 := Frm.heap_set _ g' 1 _ _ _ (.int .i64 (high : Int)) h1
  have h3 := Frm.heap_set _ g' 2 _ _ _ (.slice ao (strike l z).length c) h2
  have hTg : Frm.Turn [g'] w3 (((w3.setCell ⟨g', 0, none⟩ (.int .i64 (most : Int))).setCell ⟨g', 1, none⟩ (.int .i64 (high : Int))).setCell ⟨g', 2, none⟩ (.slice ao (strike l z).length c)) :=
    (((Frm.Turn.refl _ _).setCell (Or.inl (by simp)) _).setCell (Or.inl (by simp)) _).setCell (Or.inl (by simp)) _
  exact ⟨g', ao, c, rfl, rfl, rcells_of (by simpa using h3), hl.turn hTg (fun k hk => by have := hf k hk; simp; omega), fun k hk => Nat.le_trans hB (hf k hk), hT.trans hTg (fun k hk => by simp at hk; subst hk; exact Or.inr hw)⟩

theorem agree_none {most : Nat} {x : One} {k : Int} {v' : Value} (h : Agree most x) (hk : hasB x.l k = false) : Agree most { x with high := x.high, v := v', l := strike x.l k } := by
  have e := strike_none hk
  exact ⟨h.most, h.high, fun j => by show x.S.used j = hasB (strike x.l k) j; rw [e]; exact h.used j, by show (strike x.l k).Nodup; rw [e]; exact h.nodup, by show (strike x.l k).length = x.S.len; rw [e]; exact h.len⟩

def EndRel (w0 : World) (most : Nat) (st : List One) (ga ca gw cw : Nat) (i : Value) (wr : World) : Prop := ∃ j : Nat, j ≤ st.length ∧ i = .int .i64 (j : Int) ∧ Many w0 wr most st ga ca gw cw
def InnerEnd (w0 : World) (most : Nat) (st : List One) (ga ca gw cw n : Nat) (i : Value) (wr : World) : Prop := ∃ m : Nat, m ≤ n ∧ i = .int .i64 (m : Int) ∧ Many w0 wr most st ga ca gw cw
theorem lat_cell {w : World} {g c : Nat} {l : List Nat} (h : LAt w (.slice (some ⟨g, 0, none⟩) l.length c) l) (m : Nat) (hm : m < l.length) : w.cell? ⟨g, m, none⟩ = some (.int .i64 (Hp.at_ l m : Int)) := by
  rcases h.cases with ⟨h1, _⟩ | ⟨g', c', h1, h2⟩
  · cases h1
  · cases h1; exact h2 m hm
theorem info_ptr : (Try.prog.info? 24).map (fun i => (i.zero, i.size, i.bytes)) = some (some (.pointer none), 1, 8) := by kernel_rfl
theorem info_ref : (Try.prog.info? 37).map (fun i => (i.zero, i.size, i.bytes)) = some (some (.agg #[.int .i64 0, .int .i64 0, .slice none 0 0]), 3, 40) := by kernel_rfl
theorem under_all : Try.prog.underlying 34 = some (.slice 24) := by kernel_rfl
theorem under_want : Try.prog.underlying 38 = some (.slice 37) := by kernel_rfl
attribute [local go_sem ↓] Go.wp_at_zero Go.wp_at_succ

set_option maxRecDepth 100000 in
set_option maxHeartbeats 40000000 in
theorem plays_some (most : Nat) (n : Int) (bl off len cap : Nat) (w0 : World) (hm : most ≤ 65535) (hl : len ≤ 100) (hz : OpsAt w0 bl off len) (hn : (Lit.int .i64 n).wf = true) :
    Calls Try.prog 3 #[.int .i64 (most : Int), .slice (some ⟨bl, off, none⟩) len cap, .int .i64 n] w0 fun e w' => e = .returned (.bool true) ∧ Frm.Turn [] w0 w' := by
  have hl' : decide (100 < (len : Int)) = false := by simp; omega
  have hm0 : decide ((most : Int) < 0) = false := by simp
  have hm1 : decide (65535 < (most : Int)) = false := by simp; omega
  go_enter Try.func3, Try.ntmps3
  go_wp2_with fail
  refine (first_any w0).mono ?_
  rintro e w1 ⟨rfl, hT1⟩
  have HT1 := Lib.hid hT1
  clear hT1
  go_wp2_with fail
  refine (own_new w0 most _ hm HT1.out).mono ?_
  rintro e w2 ⟨b, rfl, ho⟩
  have HO := Lib.hid ho
  clear ho
  go_wp2
  go_loopw [11, 12, 89] (fun va vw i wr => PlaysRel w0 len most va vw i wr) (fun _ _ i _ => len - (intOf i).toNat)
  case atStart =>
    obtain ⟨F, hM⟩ := many_one HO.out
    refine ⟨0, _, _, _, _, _, by omega, rfl, rfl, rfl, hM, fun j x hx => ?_⟩
    cases j with
    | zero => simp at hx; subst hx; exact agree_one most b F
    | succ j => simp at hx
  case round =>
    obtain ⟨k, st, ga, ca, gw, cw, hk, rfl, rfl, rfl, hM, hA⟩ := hrel
    by_cases hlt : k < len
    · have hT := hM.turn
      obtain ⟨x, y, z, hop⟩ := hz k hlt
      obtain ⟨d0, d1, d2, v0, v1, v2⟩ := hop.turn hT
      clear hop hT
      have hfew := hM.few
      have hpos := hM.pos
      obtain ⟨i, hi, hI⟩ := idx_any y st.length hpos hfew
      obtain ⟨o, hx⟩ : ∃ o, st[i]? = some o := ⟨st[i], by simp [hi]⟩
      obtain ⟨c0, c1, c2⟩ := hM.cell_at hx
      have a0 := hM.ptr_at hx
      obtain ⟨l1, l2⟩ := hM.lt
      have hne := hM.ne
      have hL := (hM.each i o hx).list
      obtain ⟨ao, cv, hv⟩ := Frm.row_form hL
      rw [hv] at c2 hL
      have hAg := hA i o hx
      have hll : o.l.length ≤ 65535 := by
        have h1 := hAg.len; have h2 := len_le (S := o.S); have h3 := (hM.each i o hx).stock.ok.high; have h4 := (hM.each i o hx).stock.ok.most; omega
      have hi' : (i : Int) < (st.length : Int) := by omega
      obtain ⟨q, hq⟩ : ∃ q, (IntKind.u64.wrap x).tmod 6 = q := ⟨_, rfl⟩
      have HM := Lib.hid hM
      have HA := Lib.hid hA
      have HX := Lib.hid hx
      have HAG := Lib.hid hAg
      have HV := Lib.hid hv
      have HL := Lib.hid hL
      clear hM hA hx hAg hv hL
      by_cases q3 : q < 3
      · have q3' : decide (q < 3) = true := by simpa using q3
        have q5' : decide (q < 5) = true := by simp; omega
        go_wp2_with fail
        refine (rtake_any (HL.out.turn ((Frm.Turn.refl [] wr).alloc _) (by simp)) hll most o.high hm).mono ?_
        rintro e w3 (⟨t, v', rfl, t1, t2, t3, t4, hl', hf', hT3⟩ | ⟨rfl, hfull, hT3⟩)
        · obtain ⟨ao', cv', rfl⟩ := Frm.row_form hl'
          have hM3 := (HM.out.step ((Frm.Turn.refl [] wr).alloc (.cells #[.int .i64 x, .int .i64 y, .int .i64 z] 40))).step hT3
          obtain ⟨e0, e1, e2⟩ := hM3.cell_at HX.out
          have f0 := hM3.thaw_at (i * 3)
          have f1 := hM3.thaw_at (i * 3 + 1)
          have f2 := hM3.thaw_at (i * 3 + 2)
          have a3 := hM3.ptr_at HX.out
          obtain ⟨l3, l4⟩ := hM3.lt
          have HFW : Hid (∀ k, (Value.slice ao' (o.l.length + 1) cv').ownBlock = some k → wr.heap.size ≤ k) := Lib.hid (fun k hk => by have := hf' k (by simpa using hk); simp at this; omega)
          have hlw : LAt w3 (.slice ao' (o.l.length + 1) cv') (o.l ++ [t]) := by simpa using hl'
          have hM4 := plays_store HM.out hM3 HX.out hlw HFW.out (max o.high t)
          have HM4 := Lib.hid (hM4.step ((Frm.Turn.refl [] _).alloc (.cells #[.int .i64 (most : Int), .int .i64 ((max o.high t : Nat) : Int), .slice ao' (o.l.length + 1) cv'] 37)))
          have hx' := at_set (y := { o with high := max o.high t, v := .slice ao' (o.l.length + 1) cv', l := o.l ++ [t] }) HX.out
          have hu : o.S.used t = false := by rw [HAG.out.used, hasB_false]; intro k hk e; exact t3 (by have := at_mem hk; rw [show Hp.at_ o.l k = t by omega] at this; exact this)
          have hle : ∀ k : Int, 1 ≤ k → k < t → o.S.used k = true := fun k k1 k2 => by
            rw [HAG.out.used, hasB_true, mem_iff_at]
            exact ⟨by omega, t4 _ (by omega) (by omega)⟩
          have HTK := Lib.hid (many_take_is HM4.out hx' t t1 (by show t ≤ o.S.most; rw [HAG.out.most]; exact t2) hu hle)
          have HT4 := Lib.hid t3
          have b1 : decide ((0 : Int) < (t : Int)) = true := by simp; omega
          clear hM3 hM4 hl' hf' hT3 t3 hlw hx' hu hle
          go_wp2_with fail
          refine (HTK.out).mono ?_
          rintro e w6 ⟨rfl, S', F', hTk, hM6⟩
          have HM6 := Lib.hid hM6
          have HTk := Lib.hid hTk
          clear hM6 hTk
          go_wp2
          go_roundw
          case rel =>
            have hk' := HM6.out
            rw [List.set_set] at hk'
            refine ⟨k + 1, _, ga, ca, gw, cw, by omega, by go_num, by simp, by simp, hk', agree_set HA.out i _ (HAG.out.take HTk.out HT4.out)⟩
          case measure => simp [intOf]; omega
        · have hM3 := (HM.out.step ((Frm.Turn.refl [] wr).alloc (.cells #[.int .i64 x, .int .i64 y, .int .i64 z] 40))).step hT3
          obtain ⟨e0, e1, e2⟩ := hM3.cell_at HX.out
          have f0 := hM3.thaw_at (i * 3)
          have f1 := hM3.thaw_at (i * 3 + 1)
          have f2 := hM3.thaw_at (i * 3 + 2)
          have a3 := hM3.ptr_at HX.out
          obtain ⟨l3, l4⟩ := hM3.lt
          have hM4 := plays_same hM3 HX.out
          rw [HV.out] at hM4 e2
          have HM4 := Lib.hid (hM4.step ((Frm.Turn.refl [] _).alloc (.cells #[.int .i64 (most : Int), .int .i64 (o.high : Int), .slice ao o.l.length cv] 37)))
          have hx' := at_set (y := o) HX.out
          have hfl : ∀ k : Int, 1 ≤ k → k ≤ o.S.most → o.S.used k = true := fun k k1 k2 => by
            rw [HAG.out.used, hasB_true, mem_iff_at]
            exact ⟨by omega, hfull _ (by omega) (by have := HAG.out.most; omega)⟩
          have HTK := Lib.hid (many_take_full HM4.out hx' hfl)
          clear hM3 hM4 hT3 hx' hfl hfull
          go_wp2_with fail
          refine (HTK.out).mono ?_
          rintro e w6 ⟨rfl, hM6⟩
          have HM6 := Lib.hid hM6
          clear hM6
          go_wp2
          go_roundw
          case rel => exact ⟨k + 1, _, ga, ca, gw, cw, by omega, by go_num, by simp, by simp, HM6.out, agree_set HA.out i _ HAG.out⟩
          case measure => simp [intOf]; omega
      · have q3' : decide (q < 3) = false := by simpa using q3
        by_cases q5 : q < 5
        · have q5' : decide (q < 5) = true := by simpa using q5
          have hop2 : (wr.alloc (.cells #[.int .i64 x, .int .i64 y, .int .i64 z] 40)).cell? ⟨wr.heap.size, 2, none⟩ = some (.int .i64 z) := World.cell?_alloc_new wr #[.int .i64 x, .int .i64 y, .int .i64 z] 40 2
          have hkeep : ∀ W, Frm.Turn [] (wr.alloc (.cells #[.int .i64 x, .int .i64 y, .int .i64 z] 40)) W → W.cell? ⟨gw, i * 3, none⟩ = some (.int .i64 (most : Int)) ∧ W.cell? ⟨gw, i * 3 + 1, none⟩ = some (.int .i64 (o.high : Int)) ∧ W.cell? ⟨gw, i * 3 + 2, none⟩ = some (.slice ao o.l.length cv) ∧ W.cell? ⟨wr.heap.size, 2, none⟩ = some (.int .i64 z) :=
            fun W hW => by
              have hTW := ((Frm.Turn.refl [] wr).alloc (.cells #[.int .i64 x, .int .i64 y, .int .i64 z] 40)).trans hW (by simp)
              exact ⟨hTW.cell c0 (by simp), hTW.cell c1 (by simp), hTW.cell c2 (by simp), hW.cell hop2 (by simp)⟩
          have HK := Lib.hid hkeep
          have HOP := Lib.hid hop2
          clear hop2 hkeep
          go_upto_region 22 with fail
          simp only [hI]
          have HI := Lib.hid hI
          have HQ := Lib.hid hq
          clear hI hq
          go_cut [21, 22] (fun s21 s22 W => GiveCut (wr.alloc (.cells #[.int .i64 x, .int .i64 y, .int .i64 z] 40)) wr.heap.size most o.high o.l z s21 s22 W)
          case first =>
            go_region_held3 (fun w' => w'.cell? ⟨gw, i * 3, none⟩ = some (.int .i64 (most : Int)) ∧ w'.cell? ⟨gw, i * 3 + 1, none⟩ = some (.int .i64 (o.high : Int)) ∧ w'.cell? ⟨gw, i * 3 + 2, none⟩ = some (.slice ao o.l.length cv) ∧ w'.cell? ⟨wr.heap.size, 2, none⟩ = some (.int .i64 z))
              (first | exact HK.out _ HT3.out | exact HK.out _ (HT3.out.alloc _) | exact HK.out _ ((Frm.Turn.refl [] _).alloc _) | exact HK.out _ (((Frm.Turn.refl [] _).alloc _).drew) | exact HK.out _ (((HT3.out.setCell (Or.inr (by simp)) _).setCell (Or.inr (by simp)) _).setCell (Or.inr (by simp)) _) | go_keep)
              (first
                | (go_at_call 15; (with_reducible refine (rgive_any (HL.out.turn (((Frm.Turn.refl [] wr).alloc _).drew) (by simp)) hll most o.high z).mono ?_); rintro e w3 ⟨v', he', hl', hf', hT3⟩; obtain ⟨ao', cv', rfl⟩ := Frm.row_form hl'; subst he'; have HT3 := Lib.hid (((Frm.Turn.refl [] _).drew).trans hT3 (by simp)); have HL' := Lib.hid hl'; have HF' := Lib.hid hf'; clear hT3 hl' hf')
                | (go_at_call 15; (with_reducible refine (rgive_any (HL.out.turn ((((Frm.Turn.refl [] wr).alloc _).alloc _).drew) (by simp)) hll most o.high z).mono ?_); rintro e w3 ⟨v', he', hl', hf', hT3⟩; obtain ⟨ao', cv', rfl⟩ := Frm.row_form hl'; subst he'; have hbx := give_box hT3; simp only [World.size_alloc] at hbx; obtain ⟨n0, n1, n2, m0, m1, m2⟩ := hbx; have HBK := Lib.hid (hT3.keep (heap_alloc_new (wr.alloc (.cells #[.int .i64 x, .int .i64 y, .int .i64 z] 40)) (.cells #[.int .i64 0, .int .i64 0, .slice none 0 0] 37)) (by simp)); have HT3 := Lib.hid ((((Frm.Turn.refl [] _).alloc _).drew).trans hT3 (by simp)); have HL' := Lib.hid hl'; have HF' := Lib.hid hf'; clear hT3 hl' hf'))
            all_goals go_wp2_with fail
            all_goals go_meet
            all_goals (first | exact give_cut1 HT3.out HL'.out HF'.out (by simp only [World.size_alloc, World.size_drew] <;> omega) | exact give_cut2 HT3.out HBK.out HL'.out HF'.out (by simp only [World.size_alloc, World.size_drew] <;> omega) ⟨World.size_alloc _ _, Nat.lt_of_lt_of_le (Nat.lt_succ_self _) (Nat.le_of_eq (by simp))⟩ (by simp))
          case rest =>
            obtain ⟨g, ao', cv', rfl, rfl, ⟨r0, r1, r2, s0, s1, s2⟩, hl', hf', hT3⟩ := hcut
            have hM3 := (HM.out.step ((Frm.Turn.refl [] wr).alloc (.cells #[.int .i64 x, .int .i64 y, .int .i64 z] 40))).step hT3
            obtain ⟨e0, e1, e2⟩ := hM3.cell_at HX.out
            have f0 := hM3.thaw_at (i * 3)
            have f1 := hM3.thaw_at (i * 3 + 1)
            have f2 := hM3.thaw_at (i * 3 + 2)
            have a3 := hM3.ptr_at HX.out
            have z3 := hT3.cell HOP.out (by simp)
            have hne2 : wr.heap.size ≠ gw := by omega
            have hM4 := plays_store HM.out hM3 HX.out hl' hf' o.high
            have HM4 := Lib.hid (hM4.step ((Frm.Turn.refl [] _).drew))
            have hx' := at_set (y := { o with high := o.high, v := .slice ao' (strike o.l z).length cv', l := strike o.l z }) HX.out
            have hTg : Frm.Turn [gw] wc (((wc.setCell ⟨gw, i * 3, none⟩ (.int .i64 (most : Int))).setCell ⟨gw, i * 3 + 1, none⟩ (.int .i64 (o.high : Int))).setCell ⟨gw, i * 3 + 2, none⟩ (.slice ao' (strike o.l z).length cv')).drew :=
              ((((Frm.Turn.refl _ _).setCell (Or.inl (by simp)) _).setCell (Or.inl (by simp)) _).setCell (Or.inl (by simp)) _).drew
            have HK5 := Lib.hid (And.intro (HM4.out.ptr_at hx') (hTg.cell z3 (by simp; omega)))
            clear hTg
            have HFO := Lib.hid (show ga ∉ o.F ∧ wr.heap.size ∉ o.F from ⟨fun hc => ((HM.out.each i o HX.out).new _ hc).2.1 rfl, fun hc => by have := (HM.out.each i o HX.out).stock.lt _ hc; omega⟩)
            cases hb : hasB o.l z with
            | true =>
              have HTG := Lib.hid (many_give_yes HM4.out hx' z v2 (by show o.S.used z = true; rw [HAG.out.used]; exact hb))
              clear hM3 hM4 hl' hf' hT3 hx'
              have HB := Lib.hid hb
              clear hb
              go_wp2_with fail
              go_region_held3 (fun w' => w'.cell? ⟨ga, i, none⟩ = some (.pointer (some ⟨o.b, 0, none⟩)) ∧ w'.cell? ⟨wr.heap.size, 2, none⟩ = some (.int .i64 z))
                (first | exact HK5.out | exact ⟨HT6.out.cell HK5.out.1 HFO.out.1, HT6.out.cell HK5.out.2 HFO.out.2⟩)
                (first
                  | (go_at_call 9; (with_reducible refine (HTG.out).mono ?_); rintro e w6 ⟨rfl, ⟨S', F', hg, hM6⟩, hT6⟩; have HM6 := Lib.hid hM6; have HG := Lib.hid hg; have HT6 := Lib.hid hT6; clear hM6 hg hT6))
              go_wp2
              go_roundw
              case rel =>
                have hk' := HM6.out
                rw [List.set_set] at hk'
                exact ⟨k + 1, _, ga, ca, gw, cw, by omega, by go_num, by simp, by simp, hk', agree_set HA.out i _ (HAG.out.give HG.out)⟩
              case measure => simp [intOf]; omega
            | false =>
              have HTG := Lib.hid (many_give_no HM4.out hx' z v2 (by show o.S.used z = false; rw [HAG.out.used]; exact hb))
              clear hM3 hM4 hl' hf' hT3 hx'
              have HB := Lib.hid hb
              clear hb
              go_wp2_with fail
              go_region_held3 (fun w' => w'.cell? ⟨ga, i, none⟩ = some (.pointer (some ⟨o.b, 0, none⟩)) ∧ w'.cell? ⟨wr.heap.size, 2, none⟩ = some (.int .i64 z))
                (first | exact HK5.out | exact ⟨HT6.out.cell HK5.out.1 HFO.out.1, HT6.out.cell HK5.out.2 HFO.out.2⟩)
                (first
                  | (go_at_call 9; (with_reducible refine (HTG.out).mono ?_); rintro e w6 ⟨rfl, hM6, hT6⟩; have HM6 := Lib.hid hM6; have HT6 := Lib.hid hT6; clear hM6 hT6))
              go_wp2
              go_roundw
              case rel =>
                exact ⟨k + 1, _, ga, ca, gw, cw, by omega, by go_num, by simp, by simp, HM6.out, agree_set HA.out i _ (agree_none HAG.out HB.out)⟩
              case measure => simp [intOf]; omega
        · have q5' : decide (q < 5) = false := by simpa using q5
          by_cases h4 : st.length < 4
          · have h4' : decide (st.length < 4) = true := by simpa using h4
            have h4'' : decide ((st.length : Int) < 4) = true := by simp; omega
            obtain ⟨i24, hi24, hz24, hs24, hb24⟩ := info_parts info_ptr
            obtain ⟨i37, hi37, hz37, hs37, hb37⟩ := info_parts info_ref
            have hkeep : ∀ W, Frm.Turn [] wr W → W.cell? ⟨ga, i, none⟩ = some (.pointer (some ⟨o.b, 0, none⟩)) ∧ W.cell? ⟨gw, i * 3, none⟩ = some (.int .i64 (most : Int)) ∧ W.cell? ⟨gw, i * 3 + 1, none⟩ = some (.int .i64 (o.high : Int)) ∧ W.cell? ⟨gw, i * 3 + 2, none⟩ = some (.slice ao o.l.length cv) :=
              fun W hTW => ⟨hTW.cell a0 (by simp), hTW.cell c0 (by simp), hTW.cell c1 (by simp), hTW.cell c2 (by simp)⟩
            have HK := Lib.hid hkeep
            have HNE := Lib.hid hne
            clear hkeep
            go_upto_region 28 with fail
            simp only [hI]
            have HI := Lib.hid hI
            have HQ := Lib.hid hq
            clear hI hq
            · go_region_held3 (fun w' => w'.cell? ⟨ga, i, none⟩ = some (.pointer (some ⟨o.b, 0, none⟩)) ∧ w'.cell? ⟨gw, i * 3, none⟩ = some (.int .i64 (most : Int)) ∧ w'.cell? ⟨gw, i * 3 + 1, none⟩ = some (.int .i64 (o.high : Int)) ∧ w'.cell? ⟨gw, i * 3 + 2, none⟩ = some (.slice ao o.l.length cv))
                (first | exact HK.out _ (((Frm.Turn.refl [] wr).alloc _).drew) | exact HK.out _ ((((Frm.Turn.refl [] wr).alloc _).alloc _).drew) | exact HK.out _ HT1.out | exact HK.out _ (HT1.out.alloc _) | exact HK.out _ ((HT1.out.alloc _).alloc _) | exact HS2.out | exact HS2.out.2 | go_keep)
                (first
                  | (go_at_call 13; (with_reducible refine (clone_any o.b o.F o.S _ ((HM.out.each i o HX.out).stock.turn (((Frm.Turn.refl [] wr).alloc _).drew) (by simp))).mono ?_); rintro e w1 ⟨b', F', rfl, hs1, hf1, hT1⟩; have HT1 := Lib.hid ((((Frm.Turn.refl [] wr).alloc _).drew).trans hT1 (by simp)); have HS1 := Lib.hid hs1; have HF1 := Lib.hid hf1; clear hs1 hf1 hT1)
                  | (go_at_call 13; (with_reducible refine (clone_any o.b o.F o.S _ ((HM.out.each i o HX.out).stock.turn ((((Frm.Turn.refl [] wr).alloc _).alloc _).drew) (by simp))).mono ?_); rintro e w1 ⟨b', F', rfl, hs1, hf1, hT1⟩; have hc3 := (hT1.keep (heap_alloc_new (wr.alloc (.cells #[.int .i64 x, .int .i64 y, .int .i64 z] 40)) (.cells #[.int .i64 (most : Int), .int .i64 (o.high : Int), .slice ao o.l.length cv] 37)) (by simp)); simp only [World.size_alloc] at hc3; have HC3 := Lib.hid hc3; clear hc3; have HT1 := Lib.hid (((((Frm.Turn.refl [] wr).alloc _).alloc _).drew).trans hT1 (by simp)); have HS1 := Lib.hid hs1; have HF1 := Lib.hid hf1; clear hs1 hf1 hT1)
                  | (refine Frm.step_append_old rfl (.tmp 186) (.tmp 192) 34 rfl 24 i24 (.pointer none) 1 8 under_all hi24 hz24 hs24 hb24 rfl (by decide) 0 ga st.length ca (st.map One.ptr) (by rfl) (Frm.owns_turn HM.out.all (HT1.out.alloc (.cells #[.pointer (some ⟨b', 0, none⟩)] 24)) (by simp)) ⟨w1.heap.size, 0, none⟩ 1 1 [.pointer (some ⟨b', 0, none⟩)] (by rfl) rfl (cell_one_new _ _ _) (by simp [Value.oneCell']) (by unfold maxLen; omega) (by omega) (Nat.zero_le _) ?_; intro v2 w2 hown2 hgrow2 hloc2 hold2; have HS2 := Lib.hid (app1_held HT1.out ((Frm.Turn.refl [] w1).alloc (.cells #[.pointer (some ⟨b', 0, none⟩)] 24)) hgrow2 hold2 hi HNE.out HK.out); have HT12 := Lib.hid (app_turn ((Frm.Turn.refl [] w1).alloc (.cells #[.pointer (some ⟨b', 0, none⟩)] 24)) hgrow2); have HO2 := Lib.hid hown2; have HL2 := Lib.hid (loc_of (w1 := w1) hloc2 (by simp only [World.size_alloc] <;> omega)); have hc3' := (HT12.out.keep HC3.out (by simp only [World.size_alloc, List.mem_singleton] <;> omega)); (try simp only [World.size_alloc] at hc3'); have HC3' := Lib.hid hc3'; clear hc3'; clear hown2 hgrow2 hloc2 hold2)
                  | (refine Frm.step_append_old rfl (.tmp 186) (.tmp 192) 34 rfl 24 i24 (.pointer none) 1 8 under_all hi24 hz24 hs24 hb24 rfl (by decide) 0 ga st.length ca (st.map One.ptr) (by rfl) (Frm.owns_turn HM.out.all (HT1.out.alloc (.cells #[.pointer (some ⟨b', 0, none⟩)] 24)) (by simp)) ⟨w1.heap.size, 0, none⟩ 1 1 [.pointer (some ⟨b', 0, none⟩)] (by rfl) rfl (cell_one_new _ _ _) (by simp [Value.oneCell']) (by unfold maxLen; omega) (by omega) (Nat.zero_le _) ?_; intro v2 w2 hown2 hgrow2 hloc2 hold2; have HS2 := Lib.hid (app1_held HT1.out ((Frm.Turn.refl [] w1).alloc (.cells #[.pointer (some ⟨b', 0, none⟩)] 24)) hgrow2 hold2 hi HNE.out HK.out); have HT12 := Lib.hid (app_turn ((Frm.Turn.refl [] w1).alloc (.cells #[.pointer (some ⟨b', 0, none⟩)] 24)) hgrow2); have HO2 := Lib.hid hown2; have HL2 := Lib.hid (loc_of (w1 := w1) hloc2 (by simp only [World.size_alloc] <;> omega)); clear hown2 hgrow2 hloc2 hold2)
                  | (refine Frm.step_append_old rfl (.tmp 186) (.tmp 192) 34 rfl 24 i24 (.pointer none) 1 8 under_all hi24 hz24 hs24 hb24 rfl (by decide) 0 ga st.length ca (st.map One.ptr) (by rfl) (Frm.owns_turn HM.out.all ((HT1.out.alloc (.cells #[.pointer (some ⟨b', 0, none⟩)] 24)).alloc (.cells #[.int .i64 (most : Int), .int .i64 (o.high : Int), .slice ao o.l.length cv] 37)) (by simp)) ⟨w1.heap.size, 0, none⟩ 1 1 [.pointer (some ⟨b', 0, none⟩)] (by rfl) rfl (Frm.news_of (t := 24) (by rw [Below.heap_alloc _ _ _ (by simp)]; exact heap_alloc_new w1 (.cells #[.pointer (some ⟨b', 0, none⟩)] 24))) (by simp [Value.oneCell']) (by unfold maxLen; omega) (by omega) (Nat.zero_le _) ?_; intro v2 w2 hown2 hgrow2 hloc2 hold2; have HS2 := Lib.hid (app1_held HT1.out (((Frm.Turn.refl [] w1).alloc (.cells #[.pointer (some ⟨b', 0, none⟩)] 24)).alloc (.cells #[.int .i64 (most : Int), .int .i64 (o.high : Int), .slice ao o.l.length cv] 37)) hgrow2 hold2 hi HNE.out HK.out); have HT12 := Lib.hid (app_turn (((Frm.Turn.refl [] w1).alloc (.cells #[.pointer (some ⟨b', 0, none⟩)] 24)).alloc (.cells #[.int .i64 (most : Int), .int .i64 (o.high : Int), .slice ao o.l.length cv] 37)) hgrow2); have HO2 := Lib.hid hown2; have HL2 := Lib.hid (loc_of (w1 := w1) hloc2 (by simp only [World.size_alloc] <;> omega)); have hc3' := ((app_turn (Frm.Turn.refl [] _) hgrow2).keep (heap_alloc_new (w1.alloc (.cells #[.pointer (some ⟨b', 0, none⟩)] 24)) (.cells #[.int .i64 (most : Int), .int .i64 (o.high : Int), .slice ao o.l.length cv] 37)) (by have := HT1.out.size; simp only [World.size_alloc, List.mem_singleton] <;> omega)); (try simp only [World.size_alloc] at hc3'); have HC3' := Lib.hid hc3'; clear hc3'; clear hown2 hgrow2 hloc2 hold2)
                  | (refine Frm.step_append_old rfl (.tmp 186) (.tmp 192) 34 rfl 24 i24 (.pointer none) 1 8 under_all hi24 hz24 hs24 hb24 rfl (by decide) 0 ga st.length ca (st.map One.ptr) (by rfl) (Frm.owns_turn HM.out.all ((HT1.out.alloc (.cells #[.int .i64 (most : Int), .int .i64 (o.high : Int), .slice ao o.l.length cv] 37)).alloc (.cells #[.pointer (some ⟨b', 0, none⟩)] 24)) (by simp)) ⟨w1.heap.size + 1, 0, none⟩ 1 1 [.pointer (some ⟨b', 0, none⟩)] (by rfl) rfl (Frm.news_of (t := 24) (by have := heap_alloc_new (w1.alloc (.cells #[.int .i64 (most : Int), .int .i64 (o.high : Int), .slice ao o.l.length cv] 37)) (.cells #[.pointer (some ⟨b', 0, none⟩)] 24); rw [World.size_alloc] at this; exact this)) (by simp [Value.oneCell']) (by unfold maxLen; omega) (by omega) (Nat.zero_le _) ?_; intro v2 w2 hown2 hgrow2 hloc2 hold2; have HS2 := Lib.hid (app1_held HT1.out (((Frm.Turn.refl [] w1).alloc (.cells #[.int .i64 (most : Int), .int .i64 (o.high : Int), .slice ao o.l.length cv] 37)).alloc (.cells #[.pointer (some ⟨b', 0, none⟩)] 24)) hgrow2 hold2 hi HNE.out HK.out); have HT12 := Lib.hid (app_turn (((Frm.Turn.refl [] w1).alloc (.cells #[.int .i64 (most : Int), .int .i64 (o.high : Int), .slice ao o.l.length cv] 37)).alloc (.cells #[.pointer (some ⟨b', 0, none⟩)] 24)) hgrow2); have HO2 := Lib.hid hown2; have HL2 := Lib.hid (loc_of (w1 := w1) hloc2 (by simp only [World.size_alloc] <;> omega)); have hc3' := ((app_turn (Frm.Turn.refl [] _) hgrow2).keep ((Below.heap_alloc (w1.alloc (.cells #[.int .i64 (most : Int), .int .i64 (o.high : Int), .slice ao o.l.length cv] 37)) (.cells #[.pointer (some ⟨b', 0, none⟩)] 24) w1.heap.size (by simp)).trans (heap_alloc_new w1 (.cells #[.int .i64 (most : Int), .int .i64 (o.high : Int), .slice ao o.l.length cv] 37))) (by have := HT1.out.size; simp only [List.mem_singleton] <;> omega)); (try simp only [World.size_alloc] at hc3'); have HC3' := Lib.hid hc3'; clear hc3'; clear hown2 hgrow2 hloc2 hold2)
                  | (refine Frm.step_append_old rfl (.tmp 194) (.tmp 199) 38 rfl 37 i37 (.agg #[.int .i64 0, .int .i64 0, .slice none 0 0]) 3 40 under_want hi37 hz37 hs37 hb37 rfl (by decide) 0 gw st.length cw (rowOf most st) (by rfl) (Frm.owns_turn HM.out.want (((HT1.out.mono (by simp)).trans HT12.out (fun k hk => Or.inl hk)).trans (Frm.Turn.refl [] w2) (by simp)) (by simp [Value.ownBlock]; exact Ne.symm HNE.out)) _ 1 1 [.int .i64 (most : Int), .int .i64 (o.high : Int), .slice ao o.l.length cv] (by rfl) rfl (Frm.news_of (cs := [.int .i64 (most : Int), .int .i64 (o.high : Int), .slice ao o.l.length cv]) (t := 37) HC3'.out) (by simp [One.cells, Value.oneCell']) (by unfold maxLen; omega) (by omega) (Nat.zero_le _) ?_; intro v3 w3 hown3 hgrow3 hloc3 hold3; have HS2 := Lib.hid (app2_held (Frm.Turn.refl [] w2) hgrow3 hold3 hi HNE.out HS2.out); have HFIN := Lib.hid (clone_cut HM.out h4 HX.out HA.out HT1.out HS1.out (fun k hk => Nat.le_trans (by simp only [World.size_alloc, World.size_drew] <;> omega) (HF1.out k hk)) HT12.out HO2.out HL2.out (Frm.Turn.refl [] w2) hgrow3 (by have h := hown3; simpa [One.cells, HV.out] using h) hloc3); clear hown3 hgrow3 hloc3 hold3)
                  | (refine Frm.step_append_old rfl (.tmp 194) (.tmp 199) 38 rfl 37 i37 (.agg #[.int .i64 0, .int .i64 0, .slice none 0 0]) 3 40 under_want hi37 hz37 hs37 hb37 rfl (by decide) 0 gw st.length cw (rowOf most st) (by rfl) (Frm.owns_turn HM.out.want (((HT1.out.mono (by simp)).trans HT12.out (fun k hk => Or.inl hk)).trans ((Frm.Turn.refl [] w2).alloc (.cells #[.int .i64 (most : Int), .int .i64 (o.high : Int), .slice ao o.l.length cv] 37)) (by simp)) (by simp [Value.ownBlock]; exact Ne.symm HNE.out)) ⟨w2.heap.size, 0, none⟩ 1 1 [.int .i64 (most : Int), .int .i64 (o.high : Int), .slice ao o.l.length cv] (by rfl) rfl (Frm.news_of (cs := [.int .i64 (most : Int), .int .i64 (o.high : Int), .slice ao o.l.length cv]) (t := 37) (heap_alloc_new w2 (.cells #[.int .i64 (most : Int), .int .i64 (o.high : Int), .slice ao o.l.length cv] 37))) (by simp [One.cells, Value.oneCell']) (by unfold maxLen; omega) (by omega) (Nat.zero_le _) ?_; intro v3 w3 hown3 hgrow3 hloc3 hold3; have HS2 := Lib.hid (app2_held ((Frm.Turn.refl [] w2).alloc (.cells #[.int .i64 (most : Int), .int .i64 (o.high : Int), .slice ao o.l.length cv] 37)) hgrow3 hold3 hi HNE.out HS2.out); have HFIN := Lib.hid (clone_cut HM.out h4 HX.out HA.out HT1.out HS1.out (fun k hk => Nat.le_trans (by simp only [World.size_alloc, World.size_drew] <;> omega) (HF1.out k hk)) HT12.out HO2.out HL2.out ((Frm.Turn.refl [] w2).alloc (.cells #[.int .i64 (most : Int), .int .i64 (o.high : Int), .slice ao o.l.length cv] 37)) hgrow3 (by have h := hown3; simpa [One.cells, HV.out] using h) hloc3); clear hown3 hgrow3 hloc3 hold3))
              all_goals go_wp2_with fail
              all_goals go_roundw
              all_goals first | (obtain ⟨st', ga', ca', gw', cw', q1, q2, q3, q4⟩ := HFIN.out; exact ⟨k + 1, st', ga', ca', gw', cw', by omega, by go_num, q1, q2, q3, q4⟩) | (simp [intOf]; omega)
          · have h4' : decide (st.length < 4) = false := by simpa using h4
            have h4'' : decide ((st.length : Int) < 4) = false := by simp; omega
            go_wp2_with fail
            go_roundw
            case rel => exact ⟨k + 1, st, ga, ca, gw, cw, by omega, by go_num, rfl, rfl, HM.out.step ((Frm.Turn.refl [] wr).alloc _), HA.out⟩
            case measure => simp [intOf]; omega
    · have hfew := hM.few
      have HM := Lib.hid hM
      have HA := Lib.hid hA
      clear hM hA
      go_wp2
      obtain ⟨wo, rfl⟩ : ∃ wo : World, wo = wr := ⟨_, rfl⟩
      go_loopw [204] (fun i wr => EndRel w0 most st ga ca gw cw i wr) (fun i _ => st.length - (intOf i).toNat)
      case atStart => exact ⟨0, by omega, rfl, HM.out⟩
      case round =>
        obtain ⟨j, hj, rfl, hMj⟩ := hrel
        by_cases hlt2 : j < st.length
        · obtain ⟨o, hx⟩ : ∃ o, st[j]? = some o := ⟨st[j], by simp [hlt2]⟩
          obtain ⟨c0, c1, c2⟩ := hMj.cell_at hx
          have a0 := hMj.ptr_at hx
          have hAg := HA.out j o hx
          have hll : o.l.length ≤ 65535 := by
            have h1 := hAg.len; have h2 := len_le (S := o.S); have h3 := (hMj.each j o hx).stock.ok.high; have h4 := (hMj.each j o hx).stock.ok.most; omega
          have hL := (hMj.each j o hx).list
          have hj0 : (0 : Int) ≤ (j : Int) := by omega
          have hj1 : (j : Int) < (st.length : Int) := by omega
          have HMJ := Lib.hid hMj
          have HX := Lib.hid hx
          have HAG := Lib.hid hAg
          rcases hL.cases with ⟨hv, hl0⟩ | ⟨g, cg, hv, hcg⟩
          · rw [hv] at c2
            have HLN0 := Lib.hid (show o.S.len = 0 by rw [← hAg.len, hl0, List.length_nil])
            clear hl0
            have HV := Lib.hid hv
            have HL : Hid (LAt wr (.slice none 0 0) o.l) := Lib.hid (by rw [← hv]; exact hL)
            have hkeep : ∀ W, Frm.Turn [] wr W → W.cell? ⟨gw, j * 3, none⟩ = some (.int .i64 (most : Int)) ∧ W.cell? ⟨gw, j * 3 + 1, none⟩ = some (.int .i64 (o.high : Int)) ∧ W.cell? ⟨gw, j * 3 + 2, none⟩ = some (.slice none 0 0) :=
              fun W hTW => ⟨hTW.cell c0 (by simp), hTW.cell c1 (by simp), hTW.cell c2 (by simp)⟩
            have HK := Lib.hid hkeep
            clear hMj hx hAg hL hv hkeep
            go_wp2_with fail
            go_region_held3 (fun w' => w'.cell? ⟨gw, j * 3, none⟩ = some (.int .i64 (most : Int)) ∧ w'.cell? ⟨gw, j * 3 + 1, none⟩ = some (.int .i64 (o.high : Int)) ∧ w'.cell? ⟨gw, j * 3 + 2, none⟩ = some (.slice none 0 0))
              (first | exact HK.out _ ((Frm.Turn.refl [] wr).drew) | exact HK.out _ HT4.out | exact HK.out _ HT5.out | go_keep)
              (first
                | (go_at_call 11; (with_reducible refine (many_len (HMJ.out.step ((Frm.Turn.refl [] _).drew)) HX.out 0 HLN0.out).mono ?_); rintro e w3 ⟨rfl, rfl⟩)
                | (go_at_call 12; (with_reducible refine (many_high (HMJ.out.step ((Frm.Turn.refl [] _).drew)) HX.out o.high HAG.out.high.symm).mono ?_); rintro e w3 ⟨rfl, rfl⟩)
                | (go_at_call 10; (with_reducible refine (used_any o.b o.F o.S n _ (((HMJ.out.each j o HX.out).stock).turn ((Frm.Turn.refl [] wr).drew) (by simp)) hn).mono ?_); rintro e w4 ⟨rfl, hT4⟩; have HT4 := Lib.hid (((Frm.Turn.refl [] wr).drew).trans hT4 (by simp)); clear hT4)
                | (go_at_call 16; (with_reducible refine (rhas_any (HL.out.turn HT4.out (by simp)) (by omega) _ _ n _ (HAG.out.used n).symm).mono ?_); rintro e w5 ⟨rfl, hT5⟩; have HT5 := Lib.hid (HT4.out.trans hT5 (by simp)); clear hT5))
            have hM5 := HMJ.out.step HT5.out
            go_wp2
            refine wp_loop_rounds 1 ?_
            rw [rounds_succ]
            go_wp2
            go_roundw
            case rel => exact ⟨j + 1, by omega, by go_num, hM5⟩
            case measure => simp [intOf]; omega
          · rw [hv] at c2
            have HV := Lib.hid hv
            have HCG := Lib.hid hcg
            have HL : Hid (LAt wr (.slice (some ⟨g, 0, none⟩) o.l.length cg) o.l) := Lib.hid (by rw [← hv]; exact hL)
            have hkeep : ∀ W, Frm.Turn [] wr W → W.cell? ⟨gw, j * 3, none⟩ = some (.int .i64 (most : Int)) ∧ W.cell? ⟨gw, j * 3 + 1, none⟩ = some (.int .i64 (o.high : Int)) ∧ W.cell? ⟨gw, j * 3 + 2, none⟩ = some (.slice (some ⟨g, 0, none⟩) o.l.length cg) :=
              fun W hTW => ⟨hTW.cell c0 (by simp), hTW.cell c1 (by simp), hTW.cell c2 (by simp)⟩
            have HK := Lib.hid hkeep
            clear hMj hx hAg hL hv hcg hkeep
            go_wp2_with fail
            go_region_held3 (fun w' => w'.cell? ⟨gw, j * 3, none⟩ = some (.int .i64 (most : Int)) ∧ w'.cell? ⟨gw, j * 3 + 1, none⟩ = some (.int .i64 (o.high : Int)) ∧ w'.cell? ⟨gw, j * 3 + 2, none⟩ = some (.slice (some ⟨g, 0, none⟩) o.l.length cg))
              (first | exact HK.out _ ((Frm.Turn.refl [] wr).drew) | exact HK.out _ HT4.out | exact HK.out _ HT5.out | go_keep)
              (first
                | (go_at_call 11; (with_reducible refine (many_len (HMJ.out.step ((Frm.Turn.refl [] _).drew)) HX.out o.l.length HAG.out.len.symm).mono ?_); rintro e w3 ⟨rfl, rfl⟩)
                | (go_at_call 12; (with_reducible refine (many_high (HMJ.out.step ((Frm.Turn.refl [] _).drew)) HX.out o.high HAG.out.high.symm).mono ?_); rintro e w3 ⟨rfl, rfl⟩)
                | (go_at_call 10; (with_reducible refine (used_any o.b o.F o.S n _ (((HMJ.out.each j o HX.out).stock).turn ((Frm.Turn.refl [] wr).drew) (by simp)) hn).mono ?_); rintro e w4 ⟨rfl, hT4⟩; have HT4 := Lib.hid (((Frm.Turn.refl [] wr).drew).trans hT4 (by simp)); clear hT4)
                | (go_at_call 16; (with_reducible refine (rhas_any (HL.out.turn HT4.out (by simp)) (by omega) _ _ n _ (HAG.out.used n).symm).mono ?_); rintro e w5 ⟨rfl, hT5⟩; have HT5 := Lib.hid (HT4.out.trans hT5 (by simp)); clear hT5))
            have hM5 := HMJ.out.step HT5.out
            go_wp2
            obtain ⟨wo2, rfl⟩ : ∃ wo : World, wo = w5 := ⟨_, rfl⟩
            go_loopw [246] (fun i wr => InnerEnd w0 most st ga ca gw cw o.l.length i wr) (fun i _ => o.l.length - (intOf i).toNat)
            case atStart => exact ⟨0, by omega, rfl, hM5⟩
            case round =>
              obtain ⟨m, hm1, rfl, hMm⟩ := hrel
              by_cases hlt3 : m < o.l.length
              · have hcell := (hMm.each j o HX.out).list
                rw [HV.out] at hcell
                have hc3 := lat_cell hcell m hlt3
                have hu : o.S.used (Hp.at_ o.l m : Int) = true := by rw [HAG.out.used, hasB_true]; exact ⟨m, hlt3, rfl⟩
                have hwf : (Lit.int .i64 (Hp.at_ o.l m : Int)).wf = true := wf_small (by omega) (by
                  have h1 := ((used_iff o.S _).1 hu).1.2
                  have h3 := (hMm.each j o HX.out).stock.ok.high; have h4 := (hMm.each j o HX.out).stock.ok.most; omega)
                have hm0 : (0 : Int) ≤ (m : Int) := by omega
                have hml : (m : Int) < (o.l.length : Int) := by omega
                obtain ⟨p, hp⟩ : ∃ p : Int, p = (Hp.at_ o.l m : Int) := ⟨_, rfl⟩
                rw [← hp] at hc3 hu hwf
                have HMM := Lib.hid hMm
                have HU := Lib.hid hu
                clear hMm hu hcell hp
                go_wp2_with (go_at_call 10; (with_reducible refine (many_used HMM.out HX.out p true hwf HU.out).mono ?_); rintro e w6 ⟨rfl, hM6⟩; have HM6 := Lib.hid hM6; clear hM6)
                go_roundw
                case rel => exact ⟨m + 1, by omega, by go_num, HM6.out⟩
                case measure => simp [intOf]; omega
              · have HMM := Lib.hid hMm
                clear hMm
                go_wp2
                go_roundw
                case rel => exact ⟨j + 1, by omega, by go_num, HMM.out⟩
                case measure => simp [intOf]; omega
        · go_wp2
          go_ret
          exact ⟨rfl, hMj.turn⟩
end Lst
end Go.Proofs.Ytnifdbmhpkkgfaa
