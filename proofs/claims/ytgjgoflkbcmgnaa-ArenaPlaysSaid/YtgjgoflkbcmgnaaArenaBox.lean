/- An operation in a box; what of makes of it. -/
import Derived.Test.YtgjgoflkbcmgnaaArenaFirst
import Derived.Test.YtgjgoflkbcmgnaaArenaOps
import Derived.Sort.Row
import Derived.Deep.RegionWith
import Derived.Maps.OwnOps
set_option linter.unusedVariables false
set_option linter.unusedSimpArgs false
namespace Go.Proofs.Ytgjgoflkbcmgnaa
namespace Arn
open Go.RowKit Hp Go.Maps

/-- An operation in a box of its own. -/
def BoxOp (W : World) (Bo : Nat) (x : OpV) : Prop := W.heap[Bo]? = some (.cells x.cells.toArray 57 (0, 0))
theorem heap_set {w : World} {b : Nat} {cur : Array Value} {e : TypeId} {fr : Nat × Nat} (h : w.heap[b]? = some (.cells cur e fr)) (i : Nat) (v : Value) : (w.setCell ⟨b, i, none⟩ v).heap[b]? = some (.cells (cur.setIfInBounds i v) e fr) := by
  rw [Go.Sort.setCell_eq]
  unfold Go.Sort.mapBlock
  simp [Array.getElem?_modify, h, Go.Sort.onCells]
theorem BoxOp.cells {W : World} {Bo : Nat} {x : OpV} (h : BoxOp W Bo x) : W.cell? ⟨Bo, 0, none⟩ = some (.int .i64 x.k) ∧ W.cell? ⟨Bo, 1, none⟩ = some (.int .i64 x.a) ∧ W.cell? ⟨Bo, 2, none⟩ = some (.int .i64 x.o) ∧ W.cell? ⟨Bo, 3, none⟩ = some (.slice x.ao x.wn x.wc) ∧ W.cell? ⟨Bo, 4, none⟩ = some (.int .u64 x.h) ∧
    W.cell? ⟨Bo, 5, none⟩ = some (.int .u64 x.xb) ∧ W.cell? ⟨Bo, 6, none⟩ = some (.int .i64 x.xa) ∧ W.cell? ⟨Bo, 7, none⟩ = some (.int .u64 x.n) ∧ W.cell? ⟨Bo, 8, none⟩ = some (.int .u64 x.m) := by
  unfold BoxOp at h
  refine ⟨?_, ?_, ?_, ?_, ?_, ?_, ?_, ?_, ?_⟩ <;> simp [World.cell?, h, OpV.cells]
theorem BoxOp.thaw {W : World} {Bo : Nat} {x : OpV} (h : BoxOp W Bo x) (i : Nat) : W.frozen? ⟨Bo, i, none⟩ = false := by
  unfold BoxOp at h
  simp [World.frozen?, h]
theorem BoxOp.turn {W W' : World} {Bo : Nat} {x : OpV} {G : List Nat} (h : BoxOp W Bo x) (ht : Frm.Turn G W W') (hn : Bo ∉ G) : BoxOp W' Bo x := ht.keep h hn
theorem BoxOp.store {W : World} {Bo : Nat} {x y : OpV} (h : BoxOp W Bo x) :
    BoxOp (((((((((W.setCell ⟨Bo, 0, none⟩ (.int .i64 y.k)).setCell ⟨Bo, 1, none⟩ (.int .i64 y.a)).setCell ⟨Bo, 2, none⟩ (.int .i64 y.o)).setCell ⟨Bo, 3, none⟩ (.slice y.ao y.wn y.wc)).setCell ⟨Bo, 4, none⟩ (.int .u64 y.h)).setCell ⟨Bo, 5, none⟩ (.int .u64 y.xb)).setCell ⟨Bo, 6, none⟩ (.int .i64 y.xa)).setCell ⟨Bo, 7, none⟩ (.int .u64 y.n)).setCell ⟨Bo, 8, none⟩ (.int .u64 y.m)) Bo y ∧
    Frm.Turn [Bo] W (((((((((W.setCell ⟨Bo, 0, none⟩ (.int .i64 y.k)).setCell ⟨Bo, 1, none⟩ (.int .i64 y.a)).setCell ⟨Bo, 2, none⟩ (.int .i64 y.o)).setCell ⟨Bo, 3, none⟩ (.slice y.ao y.wn y.wc)).setCell ⟨Bo, 4, none⟩ (.int .u64 y.h)).setCell ⟨Bo, 5, none⟩ (.int .u64 y.xb)).setCell ⟨Bo, 6, none⟩ (.int .i64 y.xa)).setCell ⟨Bo, 7, none⟩ (.int .u64 y.n)).setCell ⟨Bo, 8, none⟩ (.int .u64 y.m)) := by
  refine ⟨?_, ?_⟩
  · have h8 := heap_set (heap_set (heap_set (heap_set (heap_set (heap_set (heap_set (heap_set (heap_set h 0 (.int .i64 y.k)) 1 (.int .i64 y.a)) 2 (.int .i64 y.o)) 3 (.slice y.ao y.wn y.wc)) 4 (.int .u64 y.h)) 5 (.int .u64 y.xb)) 6 (.int .i64 y.xa)) 7 (.int .u64 y.n)) 8 (.int .u64 y.m)
    unfold BoxOp
    rw [h8]
    simp [OpV.cells]
  · exact ((((((((((Frm.Turn.refl [Bo] W).setCell (Or.inl (by simp)) _).setCell (Or.inl (by simp)) _).setCell (Or.inl (by simp)) _).setCell (Or.inl (by simp)) _).setCell (Or.inl (by simp)) _).setCell (Or.inl (by simp)) _).setCell (Or.inl (by simp)) _).setCell (Or.inl (by simp)) _).setCell (Or.inl (by simp)) _)
theorem BoxOp.new (W : World) (x : OpV) : BoxOp (W.alloc (.cells #[.int .i64 x.k, .int .i64 x.a, .int .i64 x.o, .slice x.ao x.wn x.wc, .int .u64 x.h, .int .u64 x.xb, .int .i64 x.xa, .int .u64 x.n, .int .u64 x.m] 57)) W.heap.size x := World.alloc_heap_new W _

/-- What 'of' makes of an operation: the same, but for the handle. -/
structure Same4 (x y : OpV) : Prop where
  k : y.k = x.k
  ao : y.ao = x.ao
  wn : y.wn = x.wn
  wc : y.wc = x.wc
  n : y.n = x.n
  m : y.m = x.m
  ok : y.Ok
theorem same4_of {x : OpV} (hx : x.Ok) (l : List Got) (hl : ∀ y, y ∈ l → W64 y.1.h) : Same4 x (x.of l) := by
  unfold OpV.of
  split
  · rename_i hc
    have hw : W64 ((l.map (·.1.h)).getD (x.o - 1).toNat 0) := by
      rw [List.getD_eq_getElem?_getD]
      cases hq : (l.map (·.1.h))[(x.o - 1).toNat]? with
      | none => unfold W64; simp
      | some z =>
        rw [List.getElem?_map] at hq
        obtain ⟨y, hy, rfl⟩ := Option.map_eq_some_iff.1 hq
        exact hl y (List.mem_of_getElem? hy)
    exact ⟨rfl, rfl, rfl, rfl, rfl, rfl, ⟨hx.k, hx.a, hx.o, hw, hw, hx.xa, hx.n, hx.m⟩⟩
  · exact ⟨rfl, rfl, rfl, rfl, rfl, rfl, hx⟩

/-- Blocks, then of: in the laws' drawn region. -/
theorem sin_of {w wc : World} {b n : Nat} {M : Mem} {A : Ar} (h : Sin w b M A n wc) :
    Calls Try.prog 22 #[.pointer (some ⟨b, 0, none⟩), .int .i64 200] wc fun e w' => ∃ ao c ys base, e = .returned (.slice ao ys.length c) ∧ w'.ownsRow base 70 2 (.slice ao ys.length c) ys.length (gotCells ys) ∧ ys.length ≤ 60000 ∧ (∀ y, y ∈ ys → W64 y.1.h) ∧ Frm.Turn [] wc w' := by
  refine (blocks_any h.at_ 200).mono ?_
  rintro e w' ⟨v, ys, rfl, hr, hy, _, hT⟩
  have hmem : ∀ y, y ∈ ys → y.1 ∈ A.L := fun y hym => by
    have : y.1 ∈ ys.map Prod.fst := List.mem_map.2 ⟨y, hym, rfl⟩
    rw [hy] at this
    exact List.mem_of_mem_take this
  have hlen : ys.length ≤ 60000 := by
    have h0 := congrArg List.length hy
    simp at h0
    omega
  have h64 : ∀ y, y ∈ ys → W64 y.1.h := fun y hym => by
    have := h.at_.ok.hnd _ (hmem y hym); have := h.at_.ok.births; unfold W64; omega
  rcases ownsRow_shape hr with ⟨rfl, e⟩ | ⟨g, cap, rfl, _⟩
  · exact ⟨none, 0, ys, _, by rw [e], by rw [e] at hr ⊢; exact hr, hlen, h64, hT⟩
  · exact ⟨_, _, ys, _, rfl, hr, hlen, h64, hT⟩
theorem of_flat (x : OpV) (hx : x.Ok) (ao : Option Addr) (c : Nat) (ys : List Got) (w : World) {base : Nat} (hr : w.ownsRow base 70 2 (.slice ao ys.length c) ys.length (gotCells ys)) (hys : ys.length ≤ 60000) (h64 : ∀ y, y ∈ ys → W64 y.1.h) :
    Calls Try.prog 26 #[.agg #[.int .i64 x.k, .int .i64 x.a, .int .i64 x.o, .slice x.ao x.wn x.wc, .int .u64 x.h, .int .u64 x.xb, .int .i64 x.xa, .int .u64 x.n, .int .u64 x.m], .slice ao ys.length c] w fun e w' =>
      ∃ y : OpV, Same4 x y ∧ e = .returned (.agg #[.int .i64 y.k, .int .i64 y.a, .int .i64 y.o, .slice y.ao y.wn y.wc, .int .u64 y.h, .int .u64 y.xb, .int .i64 y.xa, .int .u64 y.n, .int .u64 y.m]) ∧ Frm.Turn [] w w' :=
  (of_any x hx _ ys w hr hys).mono fun e w' ⟨he, hT⟩ => ⟨x.of ys, same4_of hx ys h64, he, hT⟩
end Arn
end Go.Proofs.Ytgjgoflkbcmgnaa
