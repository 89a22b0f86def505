/- An operation upon a draft of which no node is known: each of its trees is empty, or needs its topmost node. -/
import Derived.Test.YtjginajnegahdaaDoorDraftFloor
import Derived.Test.YtjginajnegahdaaDoorDraftNew
import Derived.Test.YtjginajnegahdaaDoorModelRight
set_option linter.unusedVariables false
set_option linter.unusedSimpArgs false
namespace Go.Proofs.YtjginajnegahdaaDoor
namespace Drf
open Go.RowKit Go.Maps

structure Flat (D : Dr) : Prop where
  tree : ∀ t, t < 3 → D.at (none, t) = ln0 ∨ ∃ y, y ≠ 0 ∧ D.at (none, t) = ⟨y, none⟩ ∧ D.know y = none
  front : 0 ≤ D.front ∧ D.front ≤ 255
  len : ∀ t, t < 3 → 0 ≤ D.len t ∧ D.len t ≤ 256
theorem Flat.find {D : Dr} (h : Flat D) {t : Nat} (ht : t < 3) : (D.at (none, t) = ln0 ∧ ∀ key, D.find t key = (0, 0)) ∨ ∃ y, y ≠ 0 ∧ ∀ key, D.find t key = (0, y) := by
  rcases h.tree t ht with h0 | ⟨y, hy, h0, hk⟩
  · exact .inl ⟨h0, fun key => find_bare h0⟩
  · exact .inr ⟨y, hy, fun key => find_far h0 hy hk⟩
theorem most_op : ∀ c, c < Ops.opT.length → Ops.opT.m0 c ≤ 255 ∧ Ops.opT.m1 c ≤ 1023 ∧ Ops.opT.m2 c ≤ 1023 := by decide
theorem op_range {c k a b : Int} (h : Ops.opT.rightB c k a b = true) : (0 ≤ c ∧ c ≤ 14) ∧ (0 ≤ k ∧ k ≤ 255) ∧ (0 ≤ a ∧ a ≤ 1023) ∧ (0 ≤ b ∧ b ≤ 1023) := by
  obtain ⟨n, rfl, hn, h0, h1, h2⟩ := Ops.right_parts h
  have := most_op n hn
  have hn' : n < 15 := hn
  omega
theorem flat_atKey {w : World} {b : Nat} {S : Sh} {D : Dr} {N : Nat} (h : DAt w b S D N) (hf : Flat D) (hN : N ≤ 90000) (tree : Nat) (ht : tree < 3) (c k a b2 : Int) (hk0 : 0 ≤ k) (hk1 : k ≤ 255) (ha0 : 0 ≤ a) (ha1 : a ≤ 1023) :
    Calls Tryd.prog 43 #[.pointer (some ⟨b, 0, none⟩), .int .i64 tree, .agg #[.int .i64 c, .int .i64 k, .int .i64 a, .int .i64 b2]] w (OpEnd w b S N (D.atKey tree c k a b2)) := by
  rcases hf.find ht with ⟨h0, hn⟩ | ⟨y, hy, hn⟩
  · exact atKey_none h tree ht c k a b2 hk0 hk1 ha0 ha1 (hn k) (renews_bare h.wf hN ht h0) (by have := hf.len tree ht; omega)
  · exact atKey_need h tree ht c k a b2 hk0 hk1 (by rw [hn k]; exact hy)
theorem flat_enqueue {w : World} {b : Nat} {S : Sh} {D : Dr} {N : Nat} (h : DAt w b S D N) (hf : Flat D) (hN : N ≤ 90000) (a : Int) (ha0 : 0 ≤ a) (ha1 : a ≤ 1023) :
    Calls Tryd.prog 39 #[.pointer (some ⟨b, 0, none⟩), .int .i64 a] w (OpEnd w b S N (D.enqueue a)) := by
  by_cases hl : D.len 1 = 256
  · exact enqueue_full h a hl
  · have hl2 := hf.len 1 (by omega)
    rcases hf.find (t := 1) (by omega) with ⟨h0, hn⟩ | ⟨y, hy, hn⟩
    · exact enqueue_new h a ha0 ha1 hl hf.front.1 hf.front.2 hl2.1 hl2.2 (by rw [hn]) (renews_bare h.wf hN (by omega) h0)
    · exact enqueue_need h a hl hf.front.1 hf.front.2 hl2.1 hl2.2 (by rw [hn]; exact hy)
theorem flat_dequeue {w : World} {b : Nat} {S : Sh} {D : Dr} {N : Nat} (h : DAt w b S D N) (hf : Flat D) (hd : D.len 1 = 0 ∨ D.at (none, 1) ≠ ln0) :
    Calls Tryd.prog 40 #[.pointer (some ⟨b, 0, none⟩)] w (OpEnd w b S N D.dequeue) := by
  by_cases hl : D.len 1 = 0
  · exact dequeue_empty h hl
  · rcases hf.find (t := 1) (by omega) with ⟨h0, hn⟩ | ⟨y, hy, hn⟩
    · rcases hd with e | e
      · exact absurd e hl
      · exact absurd h0 e
    · exact dequeue_need h hl hf.front.1 hf.front.2 (by rw [hn]; exact hy)
theorem flat_floor {w : World} {b : Nat} {S : Sh} {D : Dr} {N : Nat} (h : DAt w b S D N) (hf : Flat D) (k : Int) (hk0 : 0 ≤ k) (hk1 : k ≤ 255) :
    Calls Tryd.prog 42 #[.pointer (some ⟨b, 0, none⟩), .int .i64 k] w (OpEnd w b S N (D, D.floorAt (k + 1).toNat)) := by
  refine floor_bare h k hk0 hk1 fun key => ?_
  rcases hf.find (t := 0) (by omega) with ⟨h0, hn⟩ | ⟨y, hy, hn⟩ <;> rw [hn]
/-- What Apply's own two boxes leave, behind a call that told a result. -/
theorem app_fin {w W1 w4 : World} {b : Nat} {S S2 : Sh} {D' : Dr} {M : Nat} (hT : Frm.Turn [] w W1) (hs : w.heap.size + 2 ≤ W1.heap.size) (hlt : ∀ k, k ∈ foot b S → k < w.heap.size) (h : Aft W1 b S D' M S2 w4) (x y : Value) : Aft w b S D' M S2 ((w4.setCell ⟨w.heap.size + 1, 0, none⟩ x).setCell ⟨w.heap.size + 1, 1, none⟩ y) := by
  refine Aft.side (g := w.heap.size + 1) (Aft.ahead hT h) (((Frm.Turn.refl _ _).setCell (.inl (by simp)) _).setCell (.inl (by simp)) _) (by omega) (fun hm => ?_)
  rcases h.new _ hm with e | e
  · have := hlt _ e; omega
  · omega
end Drf
end Go.Proofs.YtjginajnegahdaaDoor
