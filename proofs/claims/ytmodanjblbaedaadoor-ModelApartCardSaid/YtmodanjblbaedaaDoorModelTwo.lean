/- Two models beside one another, and boxes for responses: what calls, new boxes and stores leave. -/
import Derived.Test.YtmodanjblbaedaaDoorModelPart
set_option linter.unusedVariables false
set_option linter.unusedSimpArgs false
namespace Go.Proofs.YtmodanjblbaedaaDoor
namespace Mdl
open Go.RowKit Go.Maps Go.Shelf Go.Lib Go.Sort

structure Two (w4 cur : World) (b b2 : Nat) (F F2 : List Nat) (mc nc : Mo) (Fc Fd : List Nat) : Prop where
  turn : Frm.Turn (F ++ F2) w4 cur
  m1 : MAt cur b mc Fc
  m2 : MAt cur b2 nc Fd
  n1 : ∀ k, k ∈ Fc → k ∈ F ∨ w4.heap.size ≤ k
  n2 : ∀ k, k ∈ Fd → k ∈ F2 ∨ w4.heap.size ≤ k
  dis : ∀ k, k ∈ Fc → k ∉ Fd
structure BoxAt (w4 cur : World) (Fc Fd : List Nat) (n : Nat) (x y : Int) : Prop where
  blk : cur.heap[n]? = some (.cells #[.int .i64 x, .int .i64 y] 40 (0, 0))
  f1 : n ∉ Fc
  f2 : n ∉ Fd
  new : w4.heap.size ≤ n
theorem BoxAt.lt {w4 cur : World} {Fc Fd : List Nat} {n : Nat} {x y : Int} (h : BoxAt w4 cur Fc Fd n x y) : n < cur.heap.size := (Array.getElem?_eq_some_iff.1 h.blk).1
theorem Two.step {w4 cur W : World} {b b2 : Nat} {F F2 Fc Fd : List Nat} {mc nc : Mo} (h : Two w4 cur b b2 F F2 mc nc Fc Fd) (hT : Frm.Turn [] cur W) : Two w4 W b b2 F F2 mc nc Fc Fd :=
  ⟨h.turn.trans hT (by simp), h.m1.step hT, h.m2.step hT, h.n1, h.n2, h.dis⟩
theorem BoxAt.step {w4 cur W : World} {Fc Fd : List Nat} {n : Nat} {x y : Int} (h : BoxAt w4 cur Fc Fd n x y) (hT : Frm.Turn [] cur W) : BoxAt w4 W Fc Fd n x y := ⟨hT.keep h.blk (by simp), h.f1, h.f2, h.new⟩
def Moved (cur W : World) (Fc Fc' : List Nat) : Prop := Frm.Turn Fc cur W ∧ ∀ k, k ∈ Fc' → k ∈ Fc ∨ cur.heap.size ≤ k
theorem Two.app1 {w4 cur W : World} {b b2 : Nat} {F F2 Fc Fd : List Nat} {mc nc : Mo} {z : Mo × Rs} {e : Ending} (h : Two w4 cur b b2 F F2 mc nc Fc Fd) (hE : MEnd cur b Fc z e W) : ∃ Fc', Two w4 W b b2 F F2 z.1 nc Fc' Fd ∧ Moved cur W Fc Fc' := by
  obtain ⟨_, Fc', hM, hT, hN⟩ := hE
  have sz := h.turn.size
  refine ⟨Fc', ⟨h.turn.trans hT (fun k hk => ?_), hM, h.m2.turn hT (fun k hk hm => h.dis k hm hk), fun k hk => ?_, h.n2, fun k hk hm => ?_⟩, hT, hN⟩
  · rcases h.n1 k hk with h1 | h1
    · exact Or.inl (by simp [h1])
    · exact Or.inr h1
  · rcases hN k hk with h1 | h1
    · exact h.n1 k h1
    · exact Or.inr (by omega)
  · rcases hN k hk with h1 | h1
    · exact h.dis k h1 hm
    · have := h.m2.lt k hm; omega
theorem Two.app2 {w4 cur W : World} {b b2 : Nat} {F F2 Fc Fd : List Nat} {mc nc : Mo} {z : Mo × Rs} {e : Ending} (h : Two w4 cur b b2 F F2 mc nc Fc Fd) (hE : MEnd cur b2 Fd z e W) : ∃ Fd', Two w4 W b b2 F F2 mc z.1 Fc Fd' ∧ Moved cur W Fd Fd' := by
  obtain ⟨_, Fd', hM, hT, hN⟩ := hE
  have sz := h.turn.size
  refine ⟨Fd', ⟨h.turn.trans hT (fun k hk => ?_), h.m1.turn hT (fun k hk hm => h.dis k hk hm), hM, h.n1, fun k hk => ?_, fun k hk hm => ?_⟩, hT, hN⟩
  · rcases h.n2 k hk with h1 | h1
    · exact Or.inl (by simp [h1])
    · exact Or.inr h1
  · rcases hN k hk with h1 | h1
    · exact h.n2 k h1
    · exact Or.inr (by omega)
  · rcases hN k hm with h1 | h1
    · exact h.dis k hk h1
    · have := h.m1.lt k hk; omega
theorem BoxAt.app1 {w4 cur W : World} {Fc Fd Fc' : List Nat} {n : Nat} {x y : Int} (h : BoxAt w4 cur Fc Fd n x y) (hm : Moved cur W Fc Fc') : BoxAt w4 W Fc' Fd n x y :=
  ⟨hm.1.keep h.blk h.f1, fun hk => by rcases hm.2 n hk with h1 | h1; exact h.f1 h1; have := h.lt; omega, h.f2, h.new⟩
theorem BoxAt.app2 {w4 cur W : World} {Fc Fd Fd' : List Nat} {n : Nat} {x y : Int} (h : BoxAt w4 cur Fc Fd n x y) (hm : Moved cur W Fd Fd') : BoxAt w4 W Fc Fd' n x y :=
  ⟨hm.1.keep h.blk h.f2, h.f1, fun hk => by rcases hm.2 n hk with h1 | h1; exact h.f2 h1; have := h.lt; omega, h.new⟩
theorem Two.box {w4 cur : World} {b b2 : Nat} {F F2 Fc Fd : List Nat} {mc nc : Mo} (h : Two w4 cur b b2 F F2 mc nc Fc Fd) : BoxAt w4 (cur.alloc (.cells #[.int .i64 0, .int .i64 0] 40)) Fc Fd cur.heap.size 0 0 :=
  ⟨World.alloc_heap_new cur _, fun hm => by have := h.m1.lt _ hm; omega, fun hm => by have := h.m2.lt _ hm; omega, h.turn.size⟩
theorem box_turn (cur : World) (n : Nat) (u v : Value) : Frm.Turn [n] cur ((cur.setCell ⟨n, 0, none⟩ u).setCell ⟨n, 1, none⟩ v) := ((Frm.Turn.refl _ _).setCell (Or.inl (by simp)) _).setCell (Or.inl (by simp)) _
theorem BoxAt.put {w4 cur : World} {Fc Fd : List Nat} {n : Nat} {x y : Int} (h : BoxAt w4 cur Fc Fd n x y) (u v : Int) : BoxAt w4 ((cur.setCell ⟨n, 0, none⟩ (.int .i64 u)).setCell ⟨n, 1, none⟩ (.int .i64 v)) Fc Fd n u v :=
  ⟨told_blk h.blk _ _, h.f1, h.f2, h.new⟩
theorem BoxAt.other {w4 cur : World} {Fc Fd : List Nat} {n k : Nat} {x y : Int} (h : BoxAt w4 cur Fc Fd n x y) (hn : n ≠ k) (u v : Value) : BoxAt w4 ((cur.setCell ⟨k, 0, none⟩ u).setCell ⟨k, 1, none⟩ v) Fc Fd n x y :=
  ⟨(box_turn cur k u v).keep h.blk (by simpa using hn), h.f1, h.f2, h.new⟩
theorem Two.put {w4 cur : World} {b b2 : Nat} {F F2 Fc Fd : List Nat} {mc nc : Mo} {n : Nat} {x y : Int} (h : Two w4 cur b b2 F F2 mc nc Fc Fd) (hb : BoxAt w4 cur Fc Fd n x y) (u v : Value) : Two w4 ((cur.setCell ⟨n, 0, none⟩ u).setCell ⟨n, 1, none⟩ v) b b2 F F2 mc nc Fc Fd :=
  ⟨(h.turn.setCell (Or.inr hb.new) _).setCell (Or.inr hb.new) _, h.m1.turn (box_turn cur n u v) (fun k hk hm => by simp at hm; subst hm; exact hb.f1 hk), h.m2.turn (box_turn cur n u v) (fun k hk hm => by simp at hm; subst hm; exact hb.f2 hk), h.n1, h.n2, h.dis⟩
end Mdl
end Go.Proofs.YtmodanjblbaedaaDoor
