/- Blocks of the laws: the first blocks of an arena, as a list. -/
import Derived.Test.YtmjdcpcndggflaaDoorArenaIter
set_option linter.unusedVariables false
set_option linter.unusedSimpArgs false
namespace Go.Proofs.YtmjdcpcndggflaaDoor
namespace Arn
open Go.RowKit Hp Go.Maps Go.Shelf
attribute [local go_sem] Oper.semAt_some

def gotCells (l : List Got) : List Value := l.flatMap fun x => [.int .u64 x.1.h, .slice (some ⟨x.2.1, 0, none⟩) x.1.ws.length x.2.2]
theorem gotCells_snoc (l : List Got) (x : Got) : gotCells (l ++ [x]) = gotCells l ++ [.int .u64 x.1.h, .slice (some ⟨x.2.1, 0, none⟩) x.1.ws.length x.2.2] := by simp [gotCells]
theorem info_blk : (Tryd.prog.info? 85).map (fun i => (i.zero, i.size, i.bytes)) = some (some (.agg #[.int .u64 0, .slice none 0 0]), 2, 32) := by kernel_rfl
theorem under_blks : Tryd.prog.underlying 42 = some (.slice 85) := by kernel_rfl
theorem cell_two_new (w : World) (x y : Value) (t : TypeId) : ∀ j u, [x, y][j]? = some u → (w.alloc (.cells #[x, y] t)).cell? ((⟨w.heap.size, 0, none⟩ : Addr).add j) = some u := by
  intro j u hj
  match j, hj with
  | 0, hj =>
    simp at hj; subst hj
    have hb := World.alloc_heap_new w (.cells #[x, y] t)
    show (w.alloc (.cells #[x, y] t)).cell? ⟨w.heap.size, 0, none⟩ = _
    unfold World.cell?
    rw [hb]; rfl
  | 1, hj =>
    simp at hj; subst hj
    have hb := World.alloc_heap_new w (.cells #[x, y] t)
    show (w.alloc (.cells #[x, y] t)).cell? ⟨w.heap.size, 1, none⟩ = _
    unfold World.cell?
    rw [hb]; rfl

structure BlkAt (w : World) (base Bl Bq : Nat) (most : Int) (L : List Blk) (pre : List Got) (W : World) : Prop where
  box : ∃ v, Boxed W Bl 42 v ∧ W.ownsRow base 85 2 v pre.length (gotCells pre) ∧ True
  q : Boxed W Bq 3 (.int .i64 most)
  rows : ∀ x, x ∈ pre → HasRow W x
  below : Below w.heap.size w W
  come : pre.map Prod.fst = L.take pre.length
  few : pre.length ≤ most.toNat
  big : base ≤ W.heap.size
theorem HasRow.cells {W : World} {x : Got} (h : HasRow W x) : ∃ cur, W.heap[x.2.1]? = some (.cells cur 22 (0, 0)) := by
  rcases h.2 with ⟨e, _⟩ | ⟨g, cap, cur, e, _, hg, _⟩
  · cases e
  · cases e; exact ⟨cur, hg⟩
theorem BlkAt.own (w : World) (base Bl Bq : Nat) (most : Int) (L : List Blk) {B : Nat} (hB : w.heap.size ≤ B) : OwnFrom B (BlkAt w base Bl Bq most L) := fun s X Y row hs hg hr =>
  ⟨holdsRow_own base Bl 42 85 2 (fun s : List Got => s.length) gotCells (fun _ _ => True) s X Y row hs.box hg (fun r e => (hr r e).2),
    boxed_own (β := List Got) Bq 3 (fun _ => .int .i64 most) s X Y row hs.q hg (fun r e => (hr r e).2),
    fun x hx => (hs.rows x hx).turn (Frm.Turn.of_grown hg) (fun hk => by
      simp at hk
      obtain ⟨_, o, ho, hc⟩ := hr _ hk
      obtain ⟨cur, hcur⟩ := (hs.rows x hx).cells
      rw [hcur] at ho; cases ho; cases hc),
    ownFrom_below (β := List Got) (Nat.le_refl _) hB s X Y row hs.below hg hr, hs.come, hs.few, Nat.le_trans hs.big hg.size⟩
theorem ownsRow_base {W : World} {base : Nat} {e : TypeId} {size n : Nat} {v : Value} {xs : List Value} (h : W.ownsRow 0 e size v n xs) (hb : ∀ k, v.ownBlock = some k → base ≤ k) : W.ownsRow base e size v n xs :=
  ⟨h.1, h.2.imp id fun ⟨g, cap, cur, he, _, r⟩ => ⟨g, cap, cur, he, hb g (by rw [he]; rfl), r⟩⟩
theorem ownsRow_zero {W : World} {base : Nat} {e : TypeId} {size n : Nat} {v : Value} {xs : List Value} (h : W.ownsRow base e size v n xs) : W.ownsRow 0 e size v n xs :=
  ⟨h.1, h.2.imp id fun ⟨g, cap, cur, he, _, r⟩ => ⟨g, cap, cur, he, Nat.zero_le _, r⟩⟩
theorem gives_own (L : List Blk) (B : Nat) (pre : List Got) : OwnFrom B (Gives L pre) := fun x X Y row hs hg hr =>
  ⟨hs.1.turn (Frm.Turn.of_grown hg) (fun hk => by
      simp at hk
      obtain ⟨_, o, ho, hc⟩ := hr _ hk
      obtain ⟨cur, hcur⟩ := hs.1.cells
      rw [hcur] at ho; cases ho; cases hc), hs.2⟩
/-- One append. -/
theorem BlkAt.step {w W w1 : World} {base Bl Bq : Nat} {most : Int} {L : List Blk} {pre : List Got} {x : Got} {v v' : Value} {tmp : Obj} (hw : w.heap.size ≤ Bl) (hwb : w.heap.size ≤ base) (hq : Bl ≠ Bq) (h : BlkAt w base Bl Bq most L pre W) (hv : Boxed W Bl 42 v) (hrow : W.ownsRow base 85 2 v pre.length (gotCells pre)) (hg : Gives L pre x W) (hm : pre.length + 1 ≤ most.toNat)
    (hown' : w1.ownsRow base 85 2 v' (pre.length + 1) (gotCells pre ++ [.int .u64 x.1.h, .slice (some ⟨x.2.1, 0, none⟩) x.1.ws.length x.2.2])) (hgrow : (W.alloc tmp).grownBy w1 v.ownBlock) :
    BlkAt w base Bl Bq most L (pre ++ [x]) (w1.setCell ⟨Bl, 0, none⟩ v') ∧ KeepsOthers W (w1.setCell ⟨Bl, 0, none⟩ v') ∧ Frm.Turn (Bl :: v.ownBlock.toList) W (w1.setCell ⟨Bl, 0, none⟩ v') := by
  obtain ⟨_, hv2, hr2, hk2, _⟩ := hv.appended (n₀ := 0) (by decide) (ownsRow_zero hrow) (Nat.zero_le _) (Nat.zero_le _) (ownsRow_zero hown') hgrow
  have T : Frm.Turn (Bl :: v.ownBlock.toList) W (w1.setCell ⟨Bl, 0, none⟩ v') :=
    ((((Frm.Turn.refl [] W).alloc tmp).mono (by simp)).trans ((Frm.Turn.of_grown hgrow).mono (G := Bl :: v.ownBlock.toList) (by simp +contextual)) (fun k hk => Or.inl hk)).setCell (p := ⟨Bl, 0, none⟩) (by simp) _
  have hno : ∀ y : Got, HasRow W y → y.2.1 ∉ Bl :: v.ownBlock.toList := fun y hy hk => by
    obtain ⟨cur, hcur⟩ := hy.cells
    simp at hk
    rcases hk with hk | hk
    · rw [hk, show W.heap[Bl]? = _ from hv] at hcur
      simp at hcur
    · rcases hrow.2 with ⟨rfl, _⟩ | ⟨g, cap, cur', rfl, _, hgb, _⟩
      · simp [Value.ownBlock] at hk
      · simp [Value.ownBlock] at hk
        rw [← hk, hgb] at hcur
        simp at hcur
  have hbase : ∀ k, v.ownBlock = some k → base ≤ k := fun k hk => (hrow.lt k hk).1
  refine ⟨⟨⟨v', hv2, ?_, trivial⟩, ?_, fun y hy => ?_, ?_, ?_, ?_, Nat.le_trans h.big T.size⟩, hk2, T⟩
  · rw [gotCells_snoc]
    have := ownsRow_base hr2 (fun k hk => (hown'.lt k hk).1)
    simpa using this
  · refine T.keep (show _ = _ from h.q) (fun hk => ?_)
    simp at hk
    rcases hk with hk | hk
    · exact hq hk.symm
    · rcases hrow.2 with ⟨rfl, _⟩ | ⟨g, cap, cur', rfl, _, hgb, _⟩
      · simp [Value.ownBlock] at hk
      · simp [Value.ownBlock] at hk
        have hqb := h.q
        unfold Boxed at hqb
        rw [← hk, hgb] at hqb
        simp at hqb
  · rcases List.mem_append.1 hy with hy | hy
    · exact (h.rows y hy).turn T (hno y (h.rows y hy))
    · simp at hy; subst hy
      exact hg.1.turn T (hno y hg.1)
  · refine h.below.trans (T.below h.below.size (fun k hk => ?_))
    simp at hk
    rcases hk with rfl | hk
    · exact hw
    · have := hbase k hk; omega
  · rw [List.map_append, h.come, List.length_append, List.length_singleton, List.take_add_one, hg.2.1]; rfl
  · simpa using hm

end Arn
end Go.Proofs.YtmjdcpcndggflaaDoor
