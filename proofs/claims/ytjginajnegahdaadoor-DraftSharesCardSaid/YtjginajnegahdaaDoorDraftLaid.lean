/- Laying the next node; the version now. -/
import Derived.Test.YtjginajnegahdaaDoorDraftNext
set_option linter.unusedVariables false
set_option linter.unusedSimpArgs false
namespace Go.Proofs.YtjginajnegahdaaDoor
namespace Drf
open Go.RowKit Go.Maps

def Dr.lay (D : Dr) (i : Nat) (x : Int) : Dr := { D with made := D.made.modify i fun n => { n with h := some x } }
theorem laid_is {D : Dr} {i : Nat} {x : Int} (h : D.next = some i) : D.laid x = D.lay i x := by unfold Dr.laid; rw [h]; rfl
section lay
variable {D : Dr} {i : Nat} {x : Int}
theorem lay_get (k : Nat) : (D.lay i x).made[k]? = (D.made[k]?).map fun n => if i = k then { n with h := some x } else n := by
  simp only [Dr.lay, List.getElem?_modify]
  by_cases e : i = k <;> simp [e]
theorem lay_len : (D.lay i x).made.length = D.made.length := by simp [Dr.lay]
theorem lay_node (k : Nat) (h : k < D.made.length) : (D.lay i x).node k = if i = k then { D.node k with h := some x } else D.node k := by
  have := lay_get (D := D) (i := i) (x := x) k
  rw [Dr.made_at h] at this
  rw [Dr.node_at this]
theorem lay_same (k : Nat) : ((D.lay i x).node k).ls = (D.node k).ls ∧ ((D.lay i x).node k).lv = (D.node k).lv ∧ ((D.lay i x).node k).gone = (D.node k).gone := by
  by_cases h : k < D.made.length
  · rw [lay_node k h]; split <;> exact ⟨rfl, rfl, rfl⟩
  · simp [Dr.node, List.getD_eq_getElem?_getD, lay_get, h]
theorem lay_at (p : Place) : (D.lay i x).at p = D.at p := by
  obtain ⟨o, d⟩ := p
  cases o with
  | none => rfl
  | some k => simp only [Dr.at, (lay_same k).1]
theorem lay_lvl (p : Place) : (D.lay i x).lvl p = D.lvl p := by
  obtain ⟨o, d⟩ := p
  cases o with
  | none => rfl
  | some k => simp only [Dr.lvl, (lay_same k).2.1]
theorem lay_wf {N : Nat} (h : Wf D N) : Wf (D.lay i x) N := by
  refine ⟨h.three, fun k hk => ?_, fun p k hk => ?_, fun p q k hp hq => ?_, fun p => by rw [lay_at]; exact h.word p, h.know, by rw [lay_len]; exact h.made, h.drop, h.drp, h.lens⟩
  · rw [lay_len] at hk
    rw [(lay_same k).1, (lay_same k).2.1]; exact h.four k hk
  · rw [lay_at] at hk
    rw [lay_len, (lay_same k).2.2, (lay_same k).2.1, lay_lvl]
    exact h.kid p k hk
  · rw [lay_at] at hp hq
    exact h.one p q k hp hq
theorem lay_row : (D.lay i x).row = D.row := funext fun l => row_congr lay_len fun k _ => ⟨(lay_same k).2.1, (lay_same k).2.2⟩
end lay
theorem DAtR.lay {w : World} {b : Nat} {S : Sh} {D : Dr} {N : Nat} (h : DAt w b S D N) {i : Nat} (hi : i < D.made.length) (x : Int) : DAt ((w.setCell ⟨S.B.getD i 0, 8, none⟩ (.bool true)).setCell ⟨S.B.getD i 0, 9, none⟩ (.int .u64 x)) b S (D.lay i x) N := by
  obtain ⟨⟨p1, p2, p3, p4⟩, ⟨p5, p6, p7⟩, p8, p9⟩ := h.parts
  have hiB : i < S.B.length := by rw [h.blen]; exact hi
  have him := getD_mem hiB
  have hT : Frm.Turn [S.B.getD i 0] w ((w.setCell ⟨S.B.getD i 0, 8, none⟩ (.bool true)).setCell ⟨S.B.getD i 0, 9, none⟩ (.int .u64 x)) := ((Frm.Turn.refl [S.B.getD i 0] w).setCell (.inl (by simp)) _).setCell (.inl (by simp)) _
  show DAtR _ b S (D.lay i x) (D.lay i x).row N
  rw [lay_row]
  refine ⟨hT.keep h.row (by simp; intro e; exact p2 (e ▸ him)), fun j hj => ?_, fun l hl => ?_, ?_, h.known.turn hT (by simp; intro e; exact p5 (e ▸ him)), lay_wf h.wf, by rw [lay_len]; exact h.blen, h.apart⟩
  · rw [lay_len] at hj
    by_cases e : i = j
    · subst e
      rw [lay_node i hi, if_pos rfl]
      refine (Frm.heap_set _ _ _ _ _ _ _ (Frm.heap_set w _ _ _ _ _ _ (h.node i hi))).trans ?_
      obtain ⟨x0, x1, x2, x3, e⟩ := list4 (h.wf.four i hi).1
      simp only [ndCells, e]
      rfl
    · rw [lay_node j hj, if_neg e]
      refine hT.keep (h.node j hj) ?_
      simp only [List.mem_singleton]
      exact fun e2 => getD_ne p8 hiB (by rw [h.blen]; exact hj) e e2.symm
  · exact Frm.owns_turn (h.fresh l hl) hT (fun k hk => by simp; rintro rfl; exact (p9 _ him).1 l hk)
  · exact Frm.owns_turn h.drop hT (fun k hk => by simp; rintro rfl; exact (p9 _ him).2 hk)
set_option maxRecDepth 10000 in
set_option maxHeartbeats 2000000 in
theorem Laid_any {w : World} {b : Nat} {S : Sh} {D : Dr} {N : Nat} (h : DAt w b S D N) (hN : N ≤ 1000000) (x : Int) :
    Calls Tryd.prog 22 #[.pointer (some ⟨b, 0, none⟩), .int .u64 x] w fun e w' => e = .returned (.tuple #[]) ∧ Aft w b S (D.laid x) N S w' := by
  have HX := Lib.hid (next_any h hN)
  cases hn : D.next with
  | none =>
    have HE : Hid (D.laid x = D) := Lib.hid (by unfold Dr.laid; rw [hn])
    rw [hn] at HX
    simp only [ptrV, ptrA, Option.map_none] at HX
    have H := Lib.hid h
    clear h hn
    go_enter Tryd.func22, Tryd.ntmps22
    go_wp2_with (go_at_call 47; (with_reducible refine (HX.out).mono ?_); rintro e w1 ⟨rfl, rfl⟩)
    go_end0
    exact ⟨rfl, by rw [HE.out]; exact Aft.refl H.out⟩
  | some i =>
    have hil : i < D.made.length := by
      have hn2 := hn
      rw [next_is] at hn2
      obtain ⟨l, _, hm⟩ := next_mem 4 i hn2
      exact (row_mem.1 hm).1
    have HE := Lib.hid (laid_is (x := x) hn)
    rw [hn] at HX
    simp only [ptrV, ptrA, Option.map_some] at HX
    obtain ⟨⟨c8, c9⟩, f8, f9⟩ := h.mark hil
    have HF : Hid (S.B.getD i 0 ∈ foot b S) := Lib.hid (by
      simp only [foot, List.mem_cons, List.mem_append]
      exact .inr (.inr (.inl (getD_mem (by rw [h.blen]; exact hil)))))
    have H := Lib.hid (h.lay hil x)
    generalize S.B.getD i 0 = g at c8 c9 f8 f9 HX HF H
    clear h hn hil
    go_enter Tryd.func22, Tryd.ntmps22
    go_wp2_with (go_at_call 47; (with_reducible refine (HX.out).mono ?_); rintro e w1 ⟨rfl, rfl⟩)
    go_end0
    exact ⟨rfl, by rw [HE.out]; exact ⟨H.out, ((Frm.Turn.refl _ _).setCell (.inl HF.out) _).setCell (.inl HF.out) _, fun k hk => .inl hk⟩⟩
abbrev verV (m ml q fr ql s sl : Int) : Value := .agg #[.int .u64 m, .int .i64 ml, .int .u64 q, .int .i64 fr, .int .i64 ql, .int .u64 s, .int .i64 sl]
/-- The version that a draft tells. -/
def Dr.verV (D : Dr) : Value := Drf.verV (D.told (D.at (none, 0))) (D.len 0) (D.told (D.at (none, 1))) D.front (D.len 1) (D.told (D.at (none, 2))) (D.len 2)
def verO : Obj := .cells #[.int .u64 0, .int .i64 0, .int .u64 0, .int .i64 0, .int .i64 0, .int .u64 0, .int .i64 0] 34
theorem ver_cells {W : World} {g : Nat} {x0 x1 x2 x3 x4 x5 x6 : Value} {t : TypeId} (h : W.heap[g]? = some (.cells #[x0, x1, x2, x3, x4, x5, x6] t (0, 0))) :
    (W.cell? ⟨g, 0, none⟩ = some x0 ∧ W.cell? ⟨g, 1, none⟩ = some x1 ∧ W.cell? ⟨g, 2, none⟩ = some x2 ∧ W.cell? ⟨g, 3, none⟩ = some x3 ∧ W.cell? ⟨g, 4, none⟩ = some x4 ∧ W.cell? ⟨g, 5, none⟩ = some x5 ∧ W.cell? ⟨g, 6, none⟩ = some x6) ∧
    W.frozen? ⟨g, 0, none⟩ = false ∧ W.frozen? ⟨g, 1, none⟩ = false ∧ W.frozen? ⟨g, 2, none⟩ = false ∧ W.frozen? ⟨g, 3, none⟩ = false ∧ W.frozen? ⟨g, 4, none⟩ = false ∧ W.frozen? ⟨g, 5, none⟩ = false ∧ W.frozen? ⟨g, 6, none⟩ = false := by
  have hc := fun i => Frm.cell_row W g i _ _ _ h
  have hf := fun i => Frm.frozen_row W g i _ _ h
  exact ⟨⟨(hc 0).trans rfl, (hc 1).trans rfl, (hc 2).trans rfl, (hc 3).trans rfl, (hc 4).trans rfl, (hc 5).trans rfl, (hc 6).trans rfl⟩, hf 0, hf 1, hf 2, hf 3, hf 4, hf 5, hf 6⟩
end Drf
end Go.Proofs.YtjginajnegahdaaDoor
