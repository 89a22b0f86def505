/- Clone of an arena. -/
import Derived.Test.YtfbnidjcimcfoaaArenaCopy
import Derived.Laws.Rows
import Derived.Deep.WholeRow
set_option linter.unusedVariables false
set_option linter.unusedSimpArgs false
namespace Go.Proofs.Ytfbnidjcimcfoaa
namespace Arn
open Go.RowKit Hp Go.Maps

theorem aclone_nil (w : World) : Calls Try.prog 20 #[.pointer none] w fun e w' => e = .returned (.pointer none) ∧ w = w' := by
  go_enter Try.func20, Try.ntmps20
  go_wp2
  go_ret
  exact ⟨rfl, rfl⟩
/-- A new arena of the state A, all in new blocks. -/
def NewAr (w : World) (A : Ar) (e : Ending) (w' : World) : Prop := ∃ n M', e = .returned (.pointer (some ⟨n, 0, none⟩)) ∧ ArAt w' n M' A ∧ (∀ k, k ∈ M'.foot n → w.heap.size ≤ k) ∧ Frm.Turn [] w w'
theorem aclone_done {w w1 w2 w4 : World} {b n m' b' : Nat} {M : Mem} {A : Ar} {S : St} {B' : List Row} {F' : List Nat} (h : ArAt w b M A) (hm : S.most = 65535) (hu : ∀ k : Int, S.used k = hasN A.L k)
    (h1 : w1.heap[n]? = some (.cells (A.cells M).toArray 71)) (T01 : Frm.Turn [] w w1) (hn : w.heap.size ≤ n) (hC : Copied w1 m' B' A.L w2) (T34 : Frm.Turn [] (w2.setCell ⟨n, 11, none⟩ (.map (some m'))) w4)
    (hs : Lst.StockAt w4 b' F' S) (hf : ∀ k, k ∈ F' → w2.heap.size ≤ k) :
    NewAr w A (.returned (.pointer (some ⟨n, 0, none⟩))) (w4.setCell ⟨n, 12, none⟩ (.pointer (some ⟨b', 0, none⟩))) := by
  have hn1 : n < w1.heap.size := (Array.getElem?_eq_some_iff.1 h1).1
  have s01 := T01.size
  have s12 := hC.turn.size
  have hnm := hC.newm
  have T23 : Frm.Turn [n] w2 (w2.setCell ⟨n, 11, none⟩ (.map (some m'))) := (Frm.Turn.refl [n] w2).setCell (Or.inl (by simp)) _
  have T45 : Frm.Turn [n] w4 (w4.setCell ⟨n, 12, none⟩ (.pointer (some ⟨b', 0, none⟩))) := (Frm.Turn.refl [n] w4).setCell (Or.inl (by simp)) _
  have T25 : Frm.Turn [n] w2 (w4.setCell ⟨n, 12, none⟩ (.pointer (some ⟨b', 0, none⟩))) := (T23.trans T34 (by simp)).trans T45 (fun k hk => Or.inl hk)
  obtain ⟨D, hD⟩ := hC.map
  have hml : m' < w2.heap.size := hD.own.lt
  have hgl : ∀ k, k ∈ B'.map Row.g → w1.heap.size ≤ k ∧ k < w2.heap.size := fun k hk => ⟨hC.new k hk, by
    obtain ⟨r, hr, rfl⟩ := List.mem_map.1 hk
    obtain ⟨i, hi⟩ := List.getElem?_of_mem hr
    have hil : i < A.L.length := by have := (List.getElem?_eq_some_iff.1 hi).1; have := hC.rows.1; omega
    exact (World.ownsRow.lt (hC.rows.2 i r _ hi (List.getElem?_eq_getElem hil)).own r.g rfl).2⟩
  have hn12 : n ∉ B'.map Row.g := fun hc => by have := (hgl n hc).1; omega
  refine ⟨n, ⟨m', b', F', B'⟩, rfl, ⟨h.ok, ?_, ⟨S, hs.turn T45 (fun k hk => by simp; have := hf k hk; omega), hm, hu⟩, ⟨D, hD.turn T25 (by simp; omega)⟩, ⟨hC.rows.1, fun i r x hr hx => (hC.rows.2 i r x hr hx).turn T25 ?_⟩, ?_, fun k hk => ?_⟩, fun k hk => ?_, ?_⟩
  · have e2 := hC.turn.keep h1 (by simp)
    have e3 := Frm.heap_set w2 n 11 _ _ _ (.map (some m')) e2
    have e4 := T34.keep e3 (by simp)
    have e5 := Frm.heap_set w4 n 12 _ _ _ (.pointer (some ⟨b', 0, none⟩)) e4
    rw [e5]
    obtain ⟨f0, f1, f2, f3, f4, f5, f6, f7, f8, e⟩ := nine_of h.ok.nine
    simp [Ar.cells, u64s, e]
  · simp; intro e; rw [← e] at hn12; exact hn12 (List.mem_map.2 ⟨r, List.mem_of_getElem? hr, rfl⟩)
  · refine List.nodup_cons.2 ⟨fun hc => ?_, hC.apart⟩
    rcases List.mem_cons.1 hc with e | hc
    · change n = m' at e; omega
    · exact hn12 hc
  · have h2 := hf k hk
    simp only [List.mem_cons, not_or]
    exact ⟨by omega, by omega, fun hc => by have := (hgl k hc).2; omega⟩
  · simp only [Mem.foot, List.mem_cons, List.mem_append] at hk
    rcases hk with rfl | rfl | hk | hk
    · exact hn
    · omega
    · have := hf k hk; omega
    · have := (hgl k hk).1; omega
  · exact (T01.trans hC.turn (by simp)).trans T25 (fun k hk => by simp at hk; subst hk; exact Or.inr hn)

/-- A whole struct is stored into the block that was made last. -/
theorem wpList_store_new {P : Program} {ops : Array Oper} {rest : List Oper} {op : Oper} {a : Act} {w w0 : World} {Q : Exit → Act → World → Prop} (hgd : op.guard = none) (ty : TypeId) (x y : Operand) (ho : op.op = .store ty x y) (c c' : Array Value)
    (hw : w = w0.alloc (.cells c ty)) (hx : a.eval x = .pointer (some ⟨w0.heap.size, 0, none⟩)) (hy : a.eval y = .agg c') (hi : (P.info? ty).map (·.size) = some c'.size) (hs : c.size = c'.size) (h1 : c'.all (·.oneCell') = true)
    (h : wpList P ops Q rest (a.put op.dst undef) (w0.alloc (.cells c' ty))) : wpList P ops Q (op :: rest) a w := by
  refine wpList_plain hgd fun K hK => ?_
  subst hw
  unfold Oper.wp execOp
  simp only [ho, hx, hy, run_storeAt_new w0 ty c c' hi hs h1, Sem.run_bind, Sem.run_pure, Result.andThen_ok]
  exact hK _ _ h
theorem info_arena : (Try.prog.info? 71).map (·.size) = some 22 := by kernel_rfl
def structB (o : Option TypeDesc) : Bool := match o with | some (.struct _) => true | _ => false
theorem struct_of {o : Option TypeDesc} (h : structB o = true) : ∃ fs, o = some (.struct fs) := by
  unfold structB at h
  split at h
  · exact ⟨_, rfl⟩
  · cases h
theorem under_arena : structB (Try.prog.underlying 71) = true := by kernel_rfl
theorem cells_size {A : Ar} {M : Mem} (h : A.Ok) : (A.cells M).toArray.size = 22 := by simp [Ar.cells, u64s, h.nine]
theorem cells_one {A : Ar} {M : Mem} : (A.cells M).toArray.all (·.oneCell') = true := by
  rw [Array.all_eq_true_iff_forall_mem]
  intro v hv
  simp [Ar.cells, u64s] at hv
  rcases hv with rfl | rfl | ⟨x, _, rfl⟩ | hv
  · rfl
  · rfl
  · rfl
  · rcases hv with rfl | rfl | rfl | rfl | rfl | rfl | rfl | rfl | rfl | rfl | rfl <;> rfl

attribute [local go_sem ↓] Go.wp_at_zero Go.wp_at_succ
set_option maxRecDepth 100000 in
set_option maxHeartbeats 4000000 in
theorem aclone_any {w : World} {b : Nat} {M : Mem} {A : Ar} (h : ArAt w b M A) :
    Calls Try.prog 20 #[.pointer (some ⟨b, 0, none⟩)] w (NewAr w A) := by
  obtain ⟨S, hS, hm, hu⟩ := h.stock
  obtain ⟨fs, hfs⟩ := struct_of under_arena
  have HFS := Lib.hid hfs
  clear hfs
  have hbl := h.b_lt
  have hc12 := h.cells.c12
  obtain ⟨CS, hCS⟩ : ∃ CS, CS = (A.cells M).toArray := ⟨_, rfl⟩
  have H := Lib.hid h
  have HS := Lib.hid hS
  have HM := Lib.hid hm
  have HU := Lib.hid hu
  have HB := Lib.hid (show w.heap[b]? = some (.cells CS 71) by rw [hCS]; exact h.body)
  have HSZ := Lib.hid (show CS.size = 22 by rw [hCS]; exact cells_size h.ok)
  have HONE := Lib.hid (show CS.all (·.oneCell') = true by rw [hCS]; exact cells_one)
  have HCS := Lib.hid hCS
  have H12 := Lib.hid hc12
  clear h hS hm hu hCS hc12
  go_enter Try.func20, Try.ntmps20
  go_wp2_with (first
    | (refine wpList_load_row rfl 71 (.tmp 7) rfl b rfl 71 CS (0, 0) (.struct fs) HB.out HFS.out rfl (by rw [HSZ.out]; exact info_arena) ?_)
    | (refine wpList_store_new (w0 := w) rfl 71 (.tmp 3) (.tmp 8) rfl _ CS rfl rfl rfl (by rw [HSZ.out]; exact info_arena) (by rw [HSZ.out]; rfl) HONE.out ?_))
  have h1 : (w.alloc (.cells CS 71)).heap[w.heap.size]? = some (.cells (A.cells M).toArray 71) := by rw [HCS.out]; exact (MapKept.heap_alloc w _).1
  have T01 : Frm.Turn [] w (w.alloc (.cells CS 71)) := (Frm.Turn.refl [] w).alloc _
  obtain ⟨w1, hw1⟩ : ∃ w1, w1 = w.alloc (.cells CS 71) := ⟨_, rfl⟩
  rw [← hw1] at h1 T01 ⊢
  have H1 := Lib.hid h1
  have HT01 := Lib.hid T01
  clear h1 T01 hw1
  refine (copies_any (H.out.step HT01.out)).mono ?_
  rintro e w2 ⟨m', B', rfl, hC⟩
  have hb2 := hC.turn.keep H1.out (by simp)
  have HC := Lib.hid hC
  have e11 : w2.cell? ⟨w.heap.size, 11, none⟩ = some (.map (some M.m)) := by
    rw [Frm.cell_row w2 _ 11 _ _ _ hb2]
    obtain ⟨f0, f1, f2, f3, f4, f5, f6, f7, f8, e⟩ := nine_of H.out.ok.nine
    simp [Ar.cells, u64s, e]
  have f11 := Frm.frozen_row w2 w.heap.size 11 _ _ hb2
  have T02 := HT01.out.trans hC.turn (by simp)
  have hsz := T02.size
  have T03 : Frm.Turn [] w (w2.setCell ⟨w.heap.size, 11, none⟩ (.map (some m'))) := T02.setCell (Or.inr (Nat.le_refl _)) _
  have k12 := T03.cell H12.out (by simp)
  have HB2 := Lib.hid hb2
  have HT3 := Lib.hid T03
  have HSZ2 := Lib.hid hsz
  clear hb2 hC T02 hsz T03
  go_wp2_with fail
  refine (Lst.clone_any M.sb M.Fs S _ (HS.out.turn HT3.out (by simp))).mono ?_
  rintro e w4 ⟨b', F', rfl, hs4, hf4, T34⟩
  have hb4 := T34.keep (Frm.heap_set w2 w.heap.size 11 _ _ _ (.map (some m')) HB2.out) (by simp)
  have e12 : ∃ v, w4.cell? ⟨w.heap.size, 12, none⟩ = some v := by
    rw [Frm.cell_row w4 _ 12 _ _ _ hb4]
    obtain ⟨f0, f1, f2, f3, f4, f5, f6, f7, f8, e⟩ := nine_of H.out.ok.nine
    simp [Ar.cells, u64s, e]
  obtain ⟨v12, e12⟩ := e12
  have f12 : w4.frozen? ⟨w.heap.size, 12, none⟩ = false := by
    have := T34.frozen (a := ⟨w.heap.size, 12, none⟩) (by have := World.block_lt_of_cell? _ _ e11; simpa using this) (by simp)
    rw [this, World.frozen?_setCell]
    exact Frm.frozen_row w2 w.heap.size 12 _ _ HB2.out
  have HR := Lib.hid (aclone_done H.out HM.out HU.out H1.out HT01.out (Nat.le_refl _) HC.out T34 hs4 (fun k hk => by have := hf4 k hk; simpa using this))
  clear hs4 hf4 T34 hb4
  go_wp2
  go_ret
  exact HR.out
end Arn
end Go.Proofs.Ytfbnidjcimcfoaa
