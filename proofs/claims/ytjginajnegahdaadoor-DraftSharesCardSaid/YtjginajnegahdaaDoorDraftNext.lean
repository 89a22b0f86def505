/- The words of the next new node; laying it. -/
import Derived.Test.YtjginajnegahdaaDoorDraftTold
set_option linter.unusedVariables false
set_option linter.unusedSimpArgs false
namespace Go.Proofs.YtjginajnegahdaaDoor
namespace Drf
open Go.RowKit Go.Maps

/-- What Next tells: words, and whether there is one. -/
def Dr.nextV (D : Dr) : Value :=
  match D.next with
  | none => .tuple #[nodeV zero4, .bool false]
  | some i => .tuple #[nodeV ((D.node i).ls.map D.told), .bool true]
def wrds (t0 t1 t2 t3 : Int) (z : Nat) : Array Value := if z = 0 then #[.int .u64 0, .int .u64 0, .int .u64 0, .int .u64 0] else if z = 1 then #[.int .u64 t0, .int .u64 0, .int .u64 0, .int .u64 0] else if z = 2 then #[.int .u64 t0, .int .u64 t1, .int .u64 0, .int .u64 0] else if z = 3 then #[.int .u64 t0, .int .u64 t1, .int .u64 t2, .int .u64 0] else #[.int .u64 t0, .int .u64 t1, .int .u64 t2, .int .u64 t3]
def node0 : Obj := .cells #[.int .u64 0, .int .u64 0, .int .u64 0, .int .u64 0] 58
theorem frz4 {W : World} {g : Nat} {c : Array Value} {t : TypeId} (h : W.heap[g]? = some (.cells c t (0, 0))) : W.frozen? ⟨g, 0, none⟩ = false ∧ W.frozen? ⟨g, 1, none⟩ = false ∧ W.frozen? ⟨g, 2, none⟩ = false ∧ W.frozen? ⟨g, 3, none⟩ = false :=
  ⟨Frm.frozen_row W g 0 _ _ h, Frm.frozen_row W g 1 _ _ h, Frm.frozen_row W g 2 _ _ h, Frm.frozen_row W g 3 _ _ h⟩
section
variable (x0 x1 x2 x3 : Int) (p0 p1 p2 p3 : Option Addr) (W : World)
abbrev lkV : Value := .agg #[.int .u64 x0, .pointer p0, .int .u64 x1, .pointer p1, .int .u64 x2, .pointer p2, .int .u64 x3, .pointer p3]
theorem ix0 : (Instr.index 114 (lkV x0 x1 x2 x3 p0 p1 p2 p3) (.int .i64 0)).run Tryd.prog W = .ok (.agg #[.int .u64 x0, .pointer p0]) W := by kernel_rfl
theorem ix1 : (Instr.index 114 (lkV x0 x1 x2 x3 p0 p1 p2 p3) (.int .i64 1)).run Tryd.prog W = .ok (.agg #[.int .u64 x1, .pointer p1]) W := by kernel_rfl
theorem ix2 : (Instr.index 114 (lkV x0 x1 x2 x3 p0 p1 p2 p3) (.int .i64 2)).run Tryd.prog W = .ok (.agg #[.int .u64 x2, .pointer p2]) W := by kernel_rfl
theorem ix3 : (Instr.index 114 (lkV x0 x1 x2 x3 p0 p1 p2 p3) (.int .i64 3)).run Tryd.prog W = .ok (.agg #[.int .u64 x3, .pointer p3]) W := by kernel_rfl
end
set_option maxRecDepth 100000 in
set_option maxHeartbeats 4000000 in
theorem Next_any {w : World} {b : Nat} {S : Sh} {D : Dr} {N : Nat} (h : DAt w b S D N) (hN : N ≤ 1000000) :
    Calls Tryd.prog 21 #[.pointer (some ⟨b, 0, none⟩)] w fun e w' => e = .returned D.nextV ∧ Frm.Turn [] w w' := by
  have HT0 := Lib.hid ((Frm.Turn.refl [] w).alloc node0)
  have HX := Lib.hid (next_any (h.step HT0.out) hN)
  cases hn : D.next with
  | none =>
    have HV : Hid (D.nextV = .tuple #[nodeV zero4, .bool false]) := Lib.hid (by unfold Dr.nextV; rw [hn])
    rw [hn] at HX
    simp only [ptrV, ptrA, Option.map_none] at HX
    unfold node0 at HT0 HX
    clear h hn
    go_enter Tryd.func21, Tryd.ntmps21
    go_wp2_with (go_at_call 47; (with_reducible refine (HX.out).mono ?_); rintro e w1 ⟨rfl, rfl⟩)
    exact bodyPost_ret (v := .tuple #[nodeV zero4, .bool false]) (by simp [results, Tryd.results21, go_sem, nodeV, u64s]) rfl ⟨by rw [HV.out], HT0.out⟩
  | some i =>
    have hil : i < D.made.length := by
      rw [next_is] at hn
      obtain ⟨l, _, hm⟩ := next_mem 4 i hn
      exact (row_mem.1 hm).1
    obtain ⟨l0, l1, l2, l3, he⟩ := list4 (h.wf.four i hil).1
    have HV : Hid (D.nextV = .tuple #[.agg #[.int .u64 (D.told l0), .int .u64 (D.told l1), .int .u64 (D.told l2), .int .u64 (D.told l3)], .bool true]) := Lib.hid (by unfold Dr.nextV; rw [hn]; simp only [he]; rfl)
    rw [hn] at HX
    simp only [ptrV, ptrA, Option.map_some] at HX
    have hnd := (h.step HT0.out).node i hil
    simp only [ndCells, he] at hnd
    obtain ⟨⟨d0, d1, d2, d3⟩, d4, d5, d6, d7⟩ := node_cells hnd
    have hok : ∀ x, x ∈ (D.node i).ls → LnOk D x := fun x hx => by
      obtain ⟨t, ht⟩ := List.getElem?_of_mem hx
      have := lnok_top h.wf (some i, t)
      simpa [Dr.at, List.getD_eq_getElem?_getD, ht] using this
    rw [he] at hok
    have hM := fun W (hT : Frm.Turn [] w W) x hx => told_any (h.step hT) x (hok x hx)
    have HM0 := Lib.hid (fun W hT => hM W hT l0 (by simp))
    have HM1 := Lib.hid (fun W hT => hM W hT l1 (by simp))
    have HM2 := Lib.hid (fun W hT => hM W hT l2 (by simp))
    have HM3 := Lib.hid (fun W hT => hM W hT l3 (by simp))
    obtain ⟨g, hg⟩ : ∃ g, g = S.B.getD i 0 := ⟨_, rfl⟩
    rw [← hg] at d0 d1 d2 d3 d4 d5 d6 d7 HX
    generalize D.told l0 = t0 at HM0 HV
    generalize D.told l1 = t1 at HM1 HV
    generalize D.told l2 = t2 at HM2 HV
    generalize D.told l3 = t3 at HM3 HV
    generalize ptrA S.B l0.k = p0 at d1 HM0
    generalize ptrA S.B l1.k = p1 at d3 HM1
    generalize ptrA S.B l2.k = p2 at d5 HM2
    generalize ptrA S.B l3.k = p3 at d7 HM3
    have HB0 := Lib.hid (heap_alloc_new w node0)
    have hgl := World.block_lt_of_cell? _ _ d0
    have hsz0 : (w.alloc node0).heap.size = w.heap.size + 1 := by simp
    simp only at hgl
    unfold node0 at HT0 HX HB0 hgl d0 d1 d2 d3 d4 d5 d6 d7 hsz0
    clear h hn hnd hok hM hg he hil
    go_enter Tryd.func21, Tryd.ntmps21
    go_upto_region 4 with (go_at_call 47; (with_reducible refine (HX.out).mono ?_); rintro e w1 ⟨rfl, rfl⟩)
    generalize w.alloc _ = W0 at HT0 HB0 d0 d1 d2 d3 d4 d5 d6 d7 hgl hsz0 ⊢
    have HSZ := Lib.hid hsz0
    clear hsz0
    go_wp2_with fail
    obtain ⟨wb, hwb⟩ : ∃ wb, wb = W0.heap.size := ⟨_, rfl⟩
    have hb5 : (W0.alloc (.cells #[.int .u64 0, .int .u64 0, .int .u64 0, .int .u64 0] 58)).heap[wb]? = some (.cells #[.int .u64 0, .int .u64 0, .int .u64 0, .int .u64 0] 58 (0, 0)) := by rw [hwb]; exact heap_alloc_new W0 _
    have hT5 : Frm.Turn [] W0 (W0.alloc (.cells #[.int .u64 0, .int .u64 0, .int .u64 0, .int .u64 0] 58)) := (Frm.Turn.refl [] W0).alloc _
    have HWB : Hid (W0.heap.size ≤ wb) := Lib.hid (Nat.le_of_eq hwb.symm)
    rw [← hwb]
    clear hwb hgl d0 d1 d2 d3 d4 d5 d6 d7
    generalize W0.alloc _ = W5 at hb5 hT5 ⊢
    have HT5 : Hid (Frm.Turn [] w W5) := Lib.hid (HT0.out.trans hT5 (by simp))
    have HB5 : Hid (W5.heap[w.heap.size]? = some (.cells #[.int .u64 0, .int .u64 0, .int .u64 0, .int .u64 0] 58 (0, 0))) := Lib.hid (hT5.keep HB0.out (by simp))
    clear hT5
    go_loopw [17] (fun i wr => ∃ (z : Nat) (zi : Int), z ≤ 4 ∧ zi = z ∧ i = .int .i64 zi ∧ wr.heap[wb]? = some (.cells (wrds t0 t1 t2 t3 z) 58 (0, 0)) ∧ Frm.Turn [wb] W5 wr) (fun i _ => 4 - (intOf i).toNat)
    case atStart => exact ⟨0, 0, by omega, rfl, rfl, hb5, Frm.Turn.refl _ _⟩
    case round =>
      obtain ⟨z, zi, hz, hzi, rfl, hbw, hT⟩ := hrel
      have hTw : Frm.Turn [] w wr := HT5.out.trans hT (fun k hk => by simp at hk; subst hk; have := HWB.out; have := HSZ.out; exact .inr (by omega))
      have HTW := Lib.hid hTw
      have HT := Lib.hid hT
      have HBW := Lib.hid hbw
      have hf := frz4 hbw
      obtain ⟨f0, f1, f2, f3⟩ := hf
      clear hb5 hT hTw
      obtain rfl | rfl | rfl | rfl | rfl : z = 0 ∨ z = 1 ∨ z = 2 ∨ z = 3 ∨ z = 4 := by omega
      · obtain rfl : zi = 0 := hzi
        have hix := ix0 l0.w l1.w l2.w l3.w p0 p1 p2 p3 wr
        simp only [lkV] at hix
        have HBk : Hid (wr.heap[wb]? = some (.cells #[.int .u64 0, .int .u64 0, .int .u64 0, .int .u64 0] 58 (0, 0))) := HBW
        clear hbw
        go_wp2_with (go_at_call 48; (with_reducible refine (HM0.out _ (HTW.out.alloc _)).mono ?_); rintro e w1 ⟨rfl, hT⟩; have hk := hT.keep (((Frm.Turn.refl [] wr).alloc _).keep HBk.out (by simp)) (by simp); obtain ⟨x0, x1, x2, x3⟩ := op_cells hk; obtain ⟨y0, y1, y2, y3⟩ := frz4 hk; have HK1 := Lib.hid hk; have HT1 := Lib.hid (((Frm.Turn.refl [] wr).alloc _).trans hT (by simp)); clear hT hk)
        go_wp2
        exact ⟨⟨1, 1, by omega, rfl, rfl, Frm.heap_set w1 wb 0 _ _ _ _ HK1.out, (HT.out.trans HT1.out (by simp)).setCell (.inl (by simp)) _⟩, by simp [intOf]⟩
      · obtain rfl : zi = 1 := hzi
        have hix := ix1 l0.w l1.w l2.w l3.w p0 p1 p2 p3 wr
        simp only [lkV] at hix
        have HBk : Hid (wr.heap[wb]? = some (.cells #[.int .u64 t0, .int .u64 0, .int .u64 0, .int .u64 0] 58 (0, 0))) := HBW
        clear hbw
        go_wp2_with (go_at_call 48; (with_reducible refine (HM1.out _ (HTW.out.alloc _)).mono ?_); rintro e w1 ⟨rfl, hT⟩; have hk := hT.keep (((Frm.Turn.refl [] wr).alloc _).keep HBk.out (by simp)) (by simp); obtain ⟨x0, x1, x2, x3⟩ := op_cells hk; obtain ⟨y0, y1, y2, y3⟩ := frz4 hk; have HK1 := Lib.hid hk; have HT1 := Lib.hid (((Frm.Turn.refl [] wr).alloc _).trans hT (by simp)); clear hT hk)
        go_wp2
        exact ⟨⟨2, 2, by omega, rfl, rfl, Frm.heap_set w1 wb 1 _ _ _ _ HK1.out, (HT.out.trans HT1.out (by simp)).setCell (.inl (by simp)) _⟩, by simp [intOf]⟩
      · obtain rfl : zi = 2 := hzi
        have hix := ix2 l0.w l1.w l2.w l3.w p0 p1 p2 p3 wr
        simp only [lkV] at hix
        have HBk : Hid (wr.heap[wb]? = some (.cells #[.int .u64 t0, .int .u64 t1, .int .u64 0, .int .u64 0] 58 (0, 0))) := HBW
        clear hbw
        go_wp2_with (go_at_call 48; (with_reducible refine (HM2.out _ (HTW.out.alloc _)).mono ?_); rintro e w1 ⟨rfl, hT⟩; have hk := hT.keep (((Frm.Turn.refl [] wr).alloc _).keep HBk.out (by simp)) (by simp); obtain ⟨x0, x1, x2, x3⟩ := op_cells hk; obtain ⟨y0, y1, y2, y3⟩ := frz4 hk; have HK1 := Lib.hid hk; have HT1 := Lib.hid (((Frm.Turn.refl [] wr).alloc _).trans hT (by simp)); clear hT hk)
        go_wp2
        exact ⟨⟨3, 3, by omega, rfl, rfl, Frm.heap_set w1 wb 2 _ _ _ _ HK1.out, (HT.out.trans HT1.out (by simp)).setCell (.inl (by simp)) _⟩, by simp [intOf]⟩
      · obtain rfl : zi = 3 := hzi
        have hix := ix3 l0.w l1.w l2.w l3.w p0 p1 p2 p3 wr
        simp only [lkV] at hix
        have HBk : Hid (wr.heap[wb]? = some (.cells #[.int .u64 t0, .int .u64 t1, .int .u64 t2, .int .u64 0] 58 (0, 0))) := HBW
        clear hbw
        go_wp2_with (go_at_call 48; (with_reducible refine (HM3.out _ (HTW.out.alloc _)).mono ?_); rintro e w1 ⟨rfl, hT⟩; have hk := hT.keep (((Frm.Turn.refl [] wr).alloc _).keep HBk.out (by simp)) (by simp); obtain ⟨x0, x1, x2, x3⟩ := op_cells hk; obtain ⟨y0, y1, y2, y3⟩ := frz4 hk; have HK1 := Lib.hid hk; have HT1 := Lib.hid (((Frm.Turn.refl [] wr).alloc _).trans hT (by simp)); clear hT hk)
        go_wp2
        exact ⟨⟨4, 4, by omega, rfl, rfl, Frm.heap_set w1 wb 3 _ _ _ _ HK1.out, (HT.out.trans HT1.out (by simp)).setCell (.inl (by simp)) _⟩, by simp [intOf]⟩
      · obtain rfl : zi = 4 := hzi
        have hbw4 : wr.heap[wb]? = some (.cells #[.int .u64 t0, .int .u64 t1, .int .u64 t2, .int .u64 t3] 58 (0, 0)) := HBW.out
        obtain ⟨x0, x1, x2, x3⟩ := op_cells hbw4
        have hres := (HT.out.keep HB5.out (by have := HWB.out; have := HSZ.out; simp; omega))
        obtain ⟨z0, z1, z2, z3⟩ := op_cells hres
        obtain ⟨y0, y1, y2, y3⟩ := frz4 hres
        have HRS := Lib.hid hres
        clear hbw hbw4 hres f0 f1 f2 f3
        go_wp2
        have hfin : ((((wr.setCell ⟨w.heap.size, 0, none⟩ (.int .u64 t0)).setCell ⟨w.heap.size, 1, none⟩ (.int .u64 t1)).setCell ⟨w.heap.size, 2, none⟩ (.int .u64 t2)).setCell ⟨w.heap.size, 3, none⟩ (.int .u64 t3)).heap[w.heap.size]? = some (.cells #[.int .u64 t0, .int .u64 t1, .int .u64 t2, .int .u64 t3] 58 (0, 0)) := Frm.heap_set _ _ 3 _ _ _ _ (Frm.heap_set _ _ 2 _ _ _ _ (Frm.heap_set _ _ 1 _ _ _ _ (Frm.heap_set _ _ 0 _ _ _ _ HRS.out)))
        obtain ⟨r0, r1, r2, r3⟩ := op_cells hfin
        exact bodyPost_ret (v := .tuple #[.agg #[.int .u64 t0, .int .u64 t1, .int .u64 t2, .int .u64 t3], .bool true]) (by simp [results, Tryd.results21, go_sem, r0, r1, r2, r3]) rfl ⟨by rw [HV.out], (((HTW.out.setCell (p := ⟨w.heap.size, 0, none⟩) (.inr (Nat.le_refl _)) _).setCell (p := ⟨w.heap.size, 1, none⟩) (.inr (Nat.le_refl _)) _).setCell (p := ⟨w.heap.size, 2, none⟩) (.inr (Nat.le_refl _)) _).setCell (p := ⟨w.heap.size, 3, none⟩) (.inr (Nat.le_refl _)) _⟩
end Drf
end Go.Proofs.YtjginajnegahdaaDoor
