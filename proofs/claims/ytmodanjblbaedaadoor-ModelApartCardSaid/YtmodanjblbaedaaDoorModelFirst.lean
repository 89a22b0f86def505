/- What the laws of layer 6 ask first. -/
import Derived.Test.YtmodanjblbaedaaDoorModelRun
set_option linter.unusedVariables false
set_option linter.unusedSimpArgs false
namespace Go.Proofs.YtmodanjblbaedaaDoor
namespace Mdl
open Go.RowKit Go.Maps Go.Shelf Go.Lib Go.Sort

def opsF : List Opn := [⟨1, 0, 5, 0⟩, ⟨2, 0, 0, 0⟩, ⟨2, 0, 0, 0⟩, ⟨5, 3, 9, 0⟩, ⟨9, 7, 0, 0⟩, ⟨10, 1, 1, 0⟩, ⟨11, 1, 0, 0⟩, ⟨11, 1, 0, 0⟩]
def rsF : List Rs := [(0, 1), (0, 5), (1, 0), (1, 0), (0, 3081), (1, 0), (0, 0), (3, 0)]
def m8 : Mo := ⟨[], upd (fun _ => none) 3 (some 9), upd (upd (fun _ => none) 1 (some 1)) 1 (some 0)⟩
theorem runF : runL .new opsF = (m8, rsF) := by
  have e1 : ∀ m, appOp m 1 0 5 0 = _ := fun m => app_q (by decide) (by omega)
  have e2 : ∀ m, appOp m 2 0 0 0 = _ := fun m => app_q (by decide) (by omega)
  have e3 : ∀ m, appOp m 5 3 9 0 = _ := fun m => app_d (by decide) (by omega)
  have e4 : ∀ m, appOp m 9 7 0 0 = _ := fun m => app_d (by decide) (by omega)
  have e5 : ∀ m, appOp m 10 1 1 0 = _ := fun m => app_s (by decide) (by omega)
  have e6 : ∀ m, appOp m 11 1 0 0 = _ := fun m => app_s (by decide) (by omega)
  simp [runL, opsF, stepM, e1, e2, e3, e4, e5, e6, Mo.new, queT, mapT, semT, acqT, get, floorUp, upd, m8, rsF]
theorem m8_ok : MOk m8 := by
  refine ⟨by simp [m8], by simp [m8], tok_none.upd (by omega) (by simp), (tok_none.upd (by omega) (by simp)).upd (by omega) (by simp)⟩
theorem m8_d : cnt m8.d = 1 := by
  have := cnt_upd (fun _ => none) (k := 3) (some 9) (by omega)
  simpa [cnt_none, m8] using this
theorem m8_s : cnt m8.s = 1 := by
  have h1 := cnt_upd (fun _ => none) (k := 1) (some 1) (by omega)
  have h2 := cnt_upd (upd (fun _ => none) 1 (some 1)) (k := 1) (some 0) (by omega)
  simp [cnt_none, upd_same] at h1 h2
  simp [m8]; omega
theorem m8_size : m8.size = 2 := by
  unfold Mo.size
  rw [m8_d, m8_s]; rfl
theorem m8_same : sameM m8 m8 = true := (sameM_iff m8_ok m8_ok).2 rfl
theorem m8_new : sameM m8 .new = false := by
  cases h : sameM m8 .new with
  | false => rfl
  | true =>
    have := (sameM_iff m8_ok mok_new).1 h
    have h2 := congrArg Mo.size this
    rw [m8_size] at h2
    simp [Mo.size, Mo.new, cnt_none] at h2
theorem rcs_at : ∀ (l : List Rs) (k j : Nat), k < l.length → j < 2 → (rcs l)[k * 2 + j]? = [Value.int .i64 (l.getD k (0, 0)).1, Value.int .i64 (l.getD k (0, 0)).2][j]?
  | [], k, j, h, _ => by simp at h
  | x :: r, 0, j, h, hj => by
    show ([Value.int .i64 x.1, Value.int .i64 x.2] ++ rcs r)[0 * 2 + j]? = _
    rw [Nat.zero_mul, Nat.zero_add, List.getElem?_append_left (by simpa using hj)]
    rfl
  | x :: r, k + 1, j, h, hj => by
    show ([Value.int .i64 x.1, Value.int .i64 x.2] ++ rcs r)[(k + 1) * 2 + j]? = _
    rw [List.getElem?_append_right (by simp; omega)]
    have e : (k + 1) * 2 + j - [Value.int .i64 x.1, Value.int .i64 x.2].length = k * 2 + j := by simp; omega
    rw [e, rcs_at r k j (by simpa using h) hj]
    rfl
def FirstEnd (w : World) (e : Ending) (w' : World) : Prop := e = .returned (.bool true) ∧ Frm.Turn [] w w'
set_option maxRecDepth 100000 in
set_option maxHeartbeats 4000000 in
theorem first_any {w : World} (hK : Ops.Kn w) : Calls Tryd.prog 6 #[] w (FirstEnd w) := by
  have HK := Lib.hid hK
  clear hK
  go_enter Tryd.func6, Tryd.ntmps6
  go_wp2_with (first
    | (go_at_call 8; (with_reducible refine (new_any _).mono ?_); rintro e w1 ⟨rfl, hM, hT⟩; have HM := Lib.hid hM; have HT := Lib.hid hT; clear hM hT)
    | (go_at_call 21; (refine (run_any (w0 := w) HK.out (HT.out.alloc _) (by simp) (HM.out.step ((Frm.Turn.refl [] w1).alloc _)) opsF (World.alloc_heap_new w1 _) (by have := HM.out.lt w.heap.size (by simp); simp; omega) (by simp [opsF])).mono ?_); rintro e w2 ⟨v, F2, rfl, hM2, hN2, hr2, hT2⟩; rw [runF] at hM2 hr2; replace hr2 : w2.ownsRow _ _ _ v 8 (rcs rsF) := hr2; obtain ⟨va, vc, rfl⟩ := Frm.row_form hr2; have HM2 := Lib.hid hM2; have HR2 := Lib.hid hr2; have HT2 : Hid (Frm.Turn [] w w2) := Lib.hid ((HT.out.alloc _).trans hT2 (by simp)); clear hM2 hN2 hr2 hT2))
  rcases row_shape HR2.out with ⟨e, h0⟩ | ⟨g, cap, e, _, hgl⟩
  · omega
  cases e
  have HW : Hid (∀ W, Frm.Turn [] w2 W → ∀ k j, k < 8 → j < 2 → W.cell? ⟨g, k * 2 + j, none⟩ = (rcs rsF)[k * 2 + j]?) := Lib.hid (fun W hT k j hk hj => by
    have h1 := HR2.out.cellAt (k * 2 + j) (by omega)
    have h2 : (rcs rsF)[k * 2 + j]? = some ((rcs rsF)[k * 2 + j]'(by have : (rcs rsF).length = 16 := rfl; omega)) := List.getElem?_eq_getElem _
    rw [h2] at h1 ⊢
    exact hT.cell h1 (by simp))
  generalize hW3 : World.alloc w2 _ = W3
  have HB3 : Hid (W3.heap[w2.heap.size]? = some (.cells (rcs rsF).toArray 40 (0, 0))) := Lib.hid (by rw [← hW3]; exact World.alloc_heap_new w2 _)
  have HT3 : Hid (Frm.Turn [] w2 W3) := Lib.hid (by rw [← hW3]; exact (Frm.Turn.refl _ _).alloc _)
  clear hW3
  go_loopw [4, 33] (fun _ i wr => ∃ k : Nat, k ≤ 8 ∧ i = .int .i64 k ∧ Frm.Turn [] W3 wr) (fun _ i _ => 8 - (intOf i).toNat)
  case atStart => exact ⟨0, by omega, rfl, Frm.Turn.refl _ _⟩
  case round =>
    obtain ⟨k, hk, rfl, hTr⟩ := hrel
    have HTr := Lib.hid hTr
    clear hTr
    by_cases hlt : k < 8
    · have hB := HTr.out.keep HB3.out (by simp)
      have c1 := fun j hj => (HW.out wr (HT3.out.trans HTr.out (by simp)) k j hlt hj).trans (rcs_at rsF k j hlt hj)
      have c2 : ∀ j, j < 2 → wr.cell? ⟨w2.heap.size, k * 2 + j, none⟩ = [Value.int .i64 (rsF.getD k (0, 0)).1, Value.int .i64 (rsF.getD k (0, 0)).2][j]? := fun j hj => by
        rw [Frm.cell_row wr _ _ _ _ _ hB]
        simp only [List.getElem?_toArray]
        exact rcs_at rsF k j hlt hj
      obtain ⟨x, y, hxy⟩ : ∃ x y, rsF.getD k (0, 0) = (x, y) := ⟨_, _, rfl⟩
      rw [hxy] at c1 c2
      have d0 : wr.cell? ⟨g, k * 2, none⟩ = some (.int .i64 x) := c1 0 (by omega)
      have d1 : wr.cell? ⟨g, k * 2 + 1, none⟩ = some (.int .i64 y) := c1 1 (by omega)
      have d2 : wr.cell? ⟨w2.heap.size, k * 2, none⟩ = some (.int .i64 x) := c2 0 (by omega)
      have d3 : wr.cell? ⟨w2.heap.size, k * 2 + 1, none⟩ = some (.int .i64 y) := c2 1 (by omega)
      have t0 : (0 : Int) ≤ (k : Int) := by omega
      have t1 : (k : Int) < 8 := by omega
      clear c1 c2 hxy hB
      go_wp2
      go_quiet (fail)
      go_wp2
      go_roundw
      case rel => exact ⟨k + 1, by omega, by go_num, HTr.out.drewN _⟩
      case measure => simp [intOf]; omega
    · obtain rfl : k = 8 := by omega
      have HTc := Lib.hid (HT3.out.trans HTr.out (by simp))
      have HSz : Hid (∀ W, Frm.Turn [] w2 W → Calls Tryd.prog 15 #[.pointer (some ⟨w.heap.size, 0, none⟩)] W fun e w' => e = .returned (.int .i64 2) ∧ Frm.Turn [] W w') := Lib.hid (fun W hT => by have := size_any (HM2.out.step hT); rw [m8_size] at this; exact this)
      have HP : Hid (∀ W, Frm.Turn [] w2 W → Calls Tryd.prog 17 #[.pointer (some ⟨w.heap.size, 0, none⟩)] W fun e w' => ∃ ao c, e = .returned (.slice ao 1 c) ∧ Frm.Turn [] W w') := Lib.hid (fun W hT => (mpairs_any (HM2.out.step hT)).mono (fun e w' ⟨v, he, hr, hT'⟩ => by
        obtain ⟨ao, c, rfl⟩ := Frm.row_form hr
        rw [keys_len, m8_d] at he
        exact ⟨ao, c, he, hT'⟩))
      have HQ : Hid (∀ W, Frm.Turn [] w2 W → Calls Tryd.prog 18 #[.pointer (some ⟨w.heap.size, 0, none⟩)] W fun e w' => ∃ ao c, e = .returned (.slice ao 1 c) ∧ Frm.Turn [] W w') := Lib.hid (fun W hT => (msems_any (HM2.out.step hT)).mono (fun e w' ⟨v, he, hr, hT'⟩ => by
        obtain ⟨ao, c, rfl⟩ := Frm.row_form hr
        rw [keys_len, m8_s] at he
        exact ⟨ao, c, he, hT'⟩))
      have HU : Hid (∀ W, Frm.Turn [] w2 W → Calls Tryd.prog 16 #[.pointer (some ⟨w.heap.size, 0, none⟩)] W fun e w' => ∃ ao c, e = .returned (.slice ao 0 c) ∧ Frm.Turn [] W w') := Lib.hid (fun W hT => (queue_any (HM2.out.step hT)).mono (fun e w' ⟨v, he, hq, _, hT'⟩ => by
        obtain ⟨ao, c, rfl⟩ := hq.form
        exact ⟨ao, c, he, hT'⟩))
      go_wp2_with (first
        | (go_at_call 15; (with_reducible refine (HSz.out _ HTc.out).mono ?_); rintro e w3 ⟨rfl, hT⟩; have HTc := Lib.hid (HTc.out.trans hT (by simp)); clear hT)
        | (go_at_call 17; (with_reducible refine (HP.out _ HTc.out).mono ?_); rintro e w4 ⟨ao4, c4, rfl, hT⟩; have HTc := Lib.hid (HTc.out.trans hT (by simp)); clear hT)
        | (go_at_call 18; (with_reducible refine (HQ.out _ HTc.out).mono ?_); rintro e w5 ⟨ao5, c5, rfl, hT⟩; have HTc := Lib.hid (HTc.out.trans hT (by simp)); clear hT)
        | (go_at_call 16; (with_reducible refine (HU.out _ HTc.out).mono ?_); rintro e w6 ⟨ao6, c6, rfl, hT⟩; have HTc := Lib.hid (HTc.out.trans hT (by simp)); clear hT)
        | (go_at_call 9; (with_reducible refine (clone_any (HM2.out.step HTc.out)).mono ?_); rintro e w7 ⟨b7, F7, rfl, hM7, _, hT⟩; have HM7 := Lib.hid hM7; have HTc := Lib.hid (HTc.out.trans hT (by simp)); have HSa : Hid (Calls Tryd.prog 13 #[.pointer (some ⟨w.heap.size, 0, none⟩), .pointer (some ⟨b7, 0, none⟩)] w7 fun e w' => e = .returned (.bool true) ∧ Frm.Turn [] w7 w') := Lib.hid (by have := same_any (HM2.out.step HTc.out) HM7.out; rw [m8_same] at this; exact this); clear hT hM7)
        | (go_at_call 8; (with_reducible refine (new_any _).mono ?_); rintro e w9 ⟨rfl, hM9, hT⟩; have HM9 := Lib.hid hM9; have HTc := Lib.hid (HTc.out.trans hT (by simp)); have HSb := Lib.hid (same_any (HM2.out.step HTc.out) HM9.out); rw [m8_new] at HSb; clear hT hM9)
        | (go_at_call 13; (with_reducible refine (HSa.out).mono ?_); rintro e w8 ⟨rfl, hT⟩; have HTc := Lib.hid (HTc.out.trans hT (by simp)); clear hT)
        | (go_at_call 13; (with_reducible refine (HSb.out).mono ?_); rintro e w10 ⟨rfl, hT⟩; have HTc := Lib.hid (HTc.out.trans hT (by simp)); clear hT))
      go_ret
      exact ⟨rfl, HT2.out.trans HTc.out (by simp)⟩
end Mdl
end Go.Proofs.YtmodanjblbaedaaDoor
