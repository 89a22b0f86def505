/- Clone of an arena. -/
import Derived.Test.YtlghinjggkgfmaaGreatArenaCopy
import Derived.Laws.Rows
import Derived.Deep.WholeRow
set_option linter.unusedVariables false
set_option linter.unusedSimpArgs false
namespace Go.Proofs.YtlghinjggkgfmaaGreat
namespace Arn
open Go.RowKit Hp Go.Maps

/-- A new arena of the state A, all in new blocks. -/
def NewAr (w : World) (A : Ar) (e : Ending) (w' : World) : Prop := ∃ n M', e = .returned (.pointer (some ⟨n, 0, none⟩)) ∧ ArAt w' n M' A ∧ (∀ k, k ∈ M'.foot n → w.heap.size ≤ k) ∧ Frm.Turn [] w w'
theorem aclone_done {w w1 w2 w4 : World} {b n m' b' : Nat} {M : Mem} {A : Ar} {S : St} {B' : List Row} {F' : List Nat} (h : ArAt w b M A) (hm : S.most = 65535) (hu : ∀ k : Int, S.used k = hasN A.L k)
    (h1 : w1.heap[n]? = some (.cells (A.cells M).toArray 160)) (T01 : Frm.Turn [] w w1) (hn : w.heap.size ≤ n) (hC : Copied w1 m' B' A.L w2) (T34 : Frm.Turn [] (w2.setCell ⟨n, 11, none⟩ (.map (some m'))) w4)
    (hs : Lst.StockAt w4 b' F' S) (hf : ∀ k, k ∈ F' → w2.heap.size ≤ k) :
    NewAr w A (.returned (.pointer (some ⟨n, 0, none⟩))) (w4.setCell ⟨n, 12, none⟩ (.pointer (some ⟨b', 0, none⟩))) := by
  have hn1 : n < w1.heap.size := (Array.getElem?_eq_some_iff.1 h1).1
  have s01 := T01.size
  have s12 := hC.turn.size
  have hnm := hC.newm
  have T23 : Frm.Turn [n] w2 (w2.setCell ⟨n, 11, none⟩ (.map (some m'))) := (Frm.Turn.refl [n] w2).setCell (Or.inl (by simp)) _
  have T45 : Frm.Turn [n] w4 (w4.setCell ⟨n, 12, none⟩ (.pointer (some ⟨b', 0, none⟩))) := (Frm.Turn.refl [n] w4).setCell (Or.inl (by simp)) _
  have T25 : Frm.Turn [n] w2 (w4.setCell ⟨n, 12, none⟩ (.pointer (some ⟨b', 0, none⟩))) := (T23.trans T34 (by simp)).trans T45 (fun k hk => Or.inl hk)
  obtain ⟨D, hD⟩ := hC.map
  have hml : m' < w2.heap.size := hD.own.lt
  have hgl : ∀ k, k ∈ B'.map Row.g → w1.heap.size ≤ k ∧ k < w2.heap.size := fun k hk => ⟨hC.new k hk, by
    obtain ⟨r, hr, rfl⟩ := List.mem_map.1 hk
    obtain ⟨i, hi⟩ := List.getElem?_of_mem hr
    have hil : i < A.L.length := by have := (List.getElem?_eq_some_iff.1 hi).1; have := hC.rows.1; omega
    exact (World.ownsRow.lt (hC.rows.2 i r _ hi (List.getElem?_eq_getElem hil)).own r.g rfl).2⟩
  have hn12 : n ∉ B'.map Row.g := fun hc => by have := (hgl n hc).1; omega
  refine ⟨n, ⟨m', b', F', B'⟩, rfl, ⟨h.ok, ?_, ⟨S, hs.turn T45 (fun k hk => by simp; have := hf k hk; omega), hm, hu⟩, ⟨D, hD.turn T25 (by simp; omega)⟩, ⟨hC.rows.1, fun i r x hr hx => (hC.rows.2 i r x hr hx).turn T25 ?_⟩, ?_, fun k hk => ?_⟩, fun k hk => ?_, ?_⟩
  · have e2 := hC.turn.keep h1 (by simp)
    have e3 := Frm.heap_set w2 n 11 _ _ _ (.map (some m')) e2
    have e4 := T34.keep e3 (by simp)
    have e5 := Frm.heap_set w4 n 12 _ _ _ (.pointer (some ⟨b', 0, none⟩)) e4
    rw [e5]
    obtain ⟨f0, f1, f2, f3, f4, f5, f6, f7, f8, e⟩ := nine_of h.ok.nine
    simp [Ar.cells, u64s, e]
  · simp; intro e; rw [← e] at hn12; exact hn12 (List.mem_map.2 ⟨r, List.mem_of_getElem? hr, rfl⟩)
  · refine List.nodup_cons.2 ⟨fun hc => ?_, hC.apart⟩
    rcases List.mem_cons.1 hc with e | hc
    · change n = m' at e; omega
    · exact hn12 hc
  · have h2 := hf k hk
    simp only [List.mem_cons, not_or]
    exact ⟨by omega, by omega, fun hc => by have := (hgl k hc).2; omega⟩
  · simp only [Mem.foot, List.mem_cons, List.mem_append] at hk
    rcases hk with rfl | rfl | hk | hk
    · exact hn
    · omega
    · have := hf k hk; omega
    · have := (hgl k hk).1; omega
  · exact (T01.trans hC.turn (by simp)).trans T25 (fun k hk => by simp at hk; subst hk; exact Or.inr hn)

/-- A whole struct is stored into the block that was made last. -/
theorem wpList_store_new {P : Program} {ops : Array Oper} {rest : List Oper} {op : Oper} {a : Act} {w w0 : World} {Q : Exit → Act → World → Prop} (hgd : op.guard = none) (ty : TypeId) (x y : Operand) (ho : op.op = .store ty x y) (c c' : Array Value)
    (hw : w = w0.alloc (.cells c ty)) (hx : a.eval x = .pointer (some ⟨w0.heap.size, 0, none⟩)) (hy : a.eval y = .agg c') (hi : (P.info? ty).map (·.size) = some c'.size) (hs : c.size = c'.size) (h1 : c'.all (·.oneCell') = true)
    (h : wpList P ops Q rest (a.put op.dst undef) (w0.alloc (.cells c' ty))) : wpList P ops Q (op :: rest) a w := by
  refine wpList_plain hgd fun K hK => ?_
  subst hw
  unfold Oper.wp execOp
  simp only [ho, hx, hy, run_storeAt_new w0 ty c c' hi hs h1, Sem.run_bind, Sem.run_pure, Result.andThen_ok]
  exact hK _ _ h
theorem info_arena : (Tryz.prog.info? 160).map (·.size) = some 22 := by kernel_rfl
def structB (o : Option TypeDesc) : Bool := match o with | some (.struct _) => true | _ => false
theorem struct_of {o : Option TypeDesc} (h : structB o = true) : ∃ fs, o = some (.struct fs) := by
  unfold structB at h
  split at h
  · exact ⟨_, rfl⟩
  · cases h
theorem under_arena : structB (Tryz.prog.underlying 160) = true := by kernel_rfl
theorem cells_size {A : Ar} {M : Mem} (h : A.Ok) : (A.cells M).toArray.size = 22 := by simp [Ar.cells, u64s, h.nine]
theorem cells_one {A : Ar} {M : Mem} : (A.cells M).toArray.all (·.oneCell') = true := by
  rw [Array.all_eq_true_iff_forall_mem]
  intro v hv
  simp [Ar.cells, u64s] at hv
  rcases hv with rfl | rfl | ⟨x, _, rfl⟩ | hv
  · rfl
  · rfl
  · rfl
  · rcases hv with rfl | rfl | rfl | rfl | rfl | rfl | rfl | rfl | rfl | rfl | rfl <;> rfl

attribute [local go_sem ↓] Go.wp_at_zero Go.wp_at_succ
end Arn
end Go.Proofs.YtlghinjggkgfmaaGreat
