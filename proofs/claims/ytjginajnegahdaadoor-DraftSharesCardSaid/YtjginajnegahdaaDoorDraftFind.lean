/- What lies below a link; finding a key. -/
import Derived.Test.YtjginajnegahdaaDoorDraftSmall2
set_option linter.unusedVariables false
set_option linter.unusedSimpArgs false
namespace Go.Proofs.YtjginajnegahdaaDoor
namespace Drf
open Go.RowKit Go.Maps

/-- A region that reads, and then does one thing: its reads in the text's order. -/
theorem wp_tail {P : Program} {id : Nat} {Q : Exit → Act → World → Prop} {a : Act} {w : World} {l : List Oper} (n : Nat) (hm : P.follows .mixedOrders = true) (hB : Region.lexTailB .any l.toArray n = true)
    (h : wpStill P l.toArray w.drew (fun a' => wpList P l.toArray Q (l.drop n) a' w.drew) (l.take n) a) : (Code.region id l.toArray true).wp P Q a w := wp_region_still_tail n hm hB h
abbrev lnV (B : List Nat) (x : Ln) : Value := .agg #[.int .u64 x.w, ptrV B x.k]
/-- The results' block of below. -/
def lnO : Obj := .cells #[.int .u64 0, .pointer none] 85
theorem ln_new (w : World) (o : Obj) : ((w.alloc o).alloc lnO).heap[w.heap.size + 1]? = some (.cells #[.int .u64 0, .pointer none] 85 (0, 0)) := by
  have := heap_alloc_new (w.alloc o) lnO
  rw [World.size_alloc] at this
  exact this
theorem blk2 {W : World} {b : Nat} {x y : Value} {t : TypeId} (h : W.heap[b]? = some (.cells #[x, y] t (0, 0))) :
    (W.cell? ⟨b, 0, none⟩ = some x ∧ W.cell? ⟨b, 1, none⟩ = some y) ∧ W.frozen? ⟨b, 0, none⟩ = false ∧ W.frozen? ⟨b, 1, none⟩ = false :=
  ⟨⟨(Frm.cell_row W b 0 _ _ _ h).trans rfl, (Frm.cell_row W b 1 _ _ _ h).trans rfl⟩, Frm.frozen_row W b 0 _ _ h, Frm.frozen_row W b 1 _ _ h⟩
theorem told_blk {W : World} {b : Nat} {p q : Value} {t : TypeId} (h : W.heap[b]? = some (.cells #[p, q] t (0, 0))) (x y : Value) : ((W.setCell ⟨b, 0, none⟩ x).setCell ⟨b, 1, none⟩ y).heap[b]? = some (.cells #[x, y] t (0, 0)) :=
  Frm.heap_set _ b 1 _ _ _ y (Frm.heap_set W b 0 _ _ _ x h)
abbrev BelowEnd (w : World) (S : Sh) (D : Dr) (a : Ln) (d : Nat) : Ending → World → Prop := fun e w' => e = .returned (.tuple #[lnV S.B ((D.below a d).getD ln0), .bool (D.below a d).isSome]) ∧ Frm.Turn [] w w'
set_option maxRecDepth 10000 in
set_option maxHeartbeats 2000000 in
theorem below_kid {w : World} {b : Nat} {S : Sh} {D : Dr} {N : Nat} (h : DAt w b S D N) (x : Int) (k d : Nat) (hk : k < D.made.length) (hd : d < 4) (i : Int) (hi : i = d) :
    Calls Tryd.prog 66 #[.pointer (some ⟨b, 0, none⟩), .agg #[.int .u64 x, .pointer (some ⟨S.B.getD k 0, 0, none⟩)], .int .i64 i] w (BelowEnd w S D ⟨x, some k⟩ d) := by
  have hp : D.Has (some k, d) := ⟨hk, by rw [(h.wf.four k hk).1]; exact hd⟩
  have HT := Lib.hid (fun o o' => ((Frm.Turn.refl [] w).alloc o).alloc o')
  have HR : Hid (D.below ⟨x, some k⟩ d = some (D.at (some k, d))) := Lib.hid rfl
  have hl := h.link hp
  obtain ⟨g, hg⟩ : ∃ g, g = S.B.getD k 0 := ⟨_, rfl⟩
  obtain ⟨y, hy⟩ : ∃ y, y = D.at (some k, d) := ⟨_, rfl⟩
  obtain ⟨v, hv⟩ : ∃ v, v = ptrA S.B y.k := ⟨_, rfl⟩
  simp only [adr, adr1, ptrV, ← hg, ← hy, ← hv] at hl
  rw [← hg]
  rw [← hy] at HR
  have HV := Lib.hid hv
  clear hp hk h hg hy hv
  obtain rfl | rfl | rfl | rfl : d = 0 ∨ d = 1 ∨ d = 2 ∨ d = 3 := by omega
  all_goals
    clear hd
    first | (obtain rfl : i = 0 := hi) | (obtain rfl : i = 1 := hi) | (obtain rfl : i = 2 := hi) | (obtain rfl : i = 3 := hi)
    simp only [Nat.mul_zero, Nat.reduceMul, Nat.reduceAdd, Nat.zero_add] at hl
    obtain ⟨⟨c0, c1⟩, f0, f1⟩ := hl
    have hgl := World.block_lt_of_cell? w _ c0
    simp only at hgl
    go_enter Tryd.func66, Tryd.ntmps66
    go_wp2
    exact bodyPost_ret (v := .tuple #[.agg #[.int .u64 y.w, .pointer v], .bool true]) (by simp [results, Tryd.results66, go_sem]) rfl ⟨by rw [HR.out]; simp [lnV, ptrV, ← HV.out], HT.out _ _⟩
set_option maxRecDepth 10000 in
theorem below_zero {w : World} {b : Nat} {S : Sh} {D : Dr} (d : Nat) (i : Int) :
    Calls Tryd.prog 66 #[.pointer (some ⟨b, 0, none⟩), .agg #[.int .u64 0, .pointer none], .int .i64 i] w (BelowEnd w S D ln0 d) := by
  have HT := Lib.hid (fun o o' => ((Frm.Turn.refl [] w).alloc o).alloc o')
  have HR : Hid (D.below ln0 d = some ln0) := Lib.hid rfl
  go_enter Tryd.func66, Tryd.ntmps66
  go_wp2
  exact bodyPost_ret (v := .tuple #[.agg #[.int .u64 0, .pointer none], .bool true]) (by simp [results, Tryd.results66, go_sem]) rfl ⟨by rw [HR.out]; rfl, HT.out _ _⟩
theorem nodeV4 {l : List Int} (h : l.length = 4) : ∃ a b c d, l = [a, b, c, d] ∧ nodeV l = .agg #[.int .u64 a, .int .u64 b, .int .u64 c, .int .u64 d] := by
  obtain ⟨a, b, c, d, rfl⟩ := list4 h
  exact ⟨a, b, c, d, rfl, rfl⟩
theorem far_val {D : Dr} {B : List Nat} {x : Int} {s : Bool} {y0 y1 y2 y3 : Int} (h0 : x ≠ 0) (hy : (D.know x).getD zero4 = [y0, y1, y2, y3]) (hs : s = (D.know x).isSome) (d : Nat) :
    Value.tuple #[lnV B ((D.below ⟨x, none⟩ d).getD ln0), .bool (D.below ⟨x, none⟩ d).isSome] = .tuple #[.agg #[.int .u64 ([y0, y1, y2, y3].getD d 0), .pointer none], .bool s] := by
  have hR : D.below ⟨x, none⟩ d = (D.know x).map fun n => ⟨n.getD d 0, none⟩ := by simp [Dr.below, h0]
  rw [hR, hs, ← hy]
  cases D.know x with
  | none =>
    simp only [Option.map_none, Option.getD_none, Option.isSome_none]
    match d with
    | 0 => rfl
    | 1 => rfl
    | 2 => rfl
    | 3 => rfl
    | d + 4 => rfl
  | some l => rfl
set_option maxRecDepth 10000 in
set_option maxHeartbeats 4000000 in
theorem below_far {w : World} {b : Nat} {S : Sh} {D : Dr} {N : Nat} (h : DAt w b S D N) (x : Int) (d : Nat) (hx : W64 x) (h0 : x ≠ 0) (hd : d < 4) (i : Int) (hi : i = d) :
    Calls Tryd.prog 66 #[.pointer (some ⟨b, 0, none⟩), .agg #[.int .u64 x, .pointer none], .int .i64 i] w (BelowEnd w S D ⟨x, none⟩ d) := by
  have c0 := h.own.1
  have hbl := h.lt b (by simp [foot])
  have t0 : (x == 0) = false := by simpa using h0
  have HT := Lib.hid (fun o o' o3 => (((Frm.Turn.refl [] w).alloc o).alloc o').alloc o3)
  have HLK := Lib.hid (fun W (hT : Frm.Turn [] w W) => (h.step hT).known.look2 hx)
  have hK : ∀ l, D.know x = some l → l.length = 4 := fun l e => (h.wf.know x l e).1
  have HR : Hid (D.below ⟨x, none⟩ d = (D.know x).map fun n => ⟨n.getD d 0, none⟩) := Lib.hid (by simp [Dr.below, h0])
  obtain ⟨m, hm⟩ : ∃ m, m = S.m := ⟨_, rfl⟩
  rw [← hm] at c0 HLK
  clear h hm
  go_enter Tryd.func66, Tryd.ntmps66
  go_wp2
  have hlk := HLK.out _ (((Frm.Turn.refl [] w).alloc (.cells #[.int .u64 x, .pointer none] 85)).alloc lnO).drew
  have hlk2 := HLK.out _ ((((Frm.Turn.refl [] w).alloc (.cells #[.int .u64 x, .pointer none] 85)).alloc lnO).alloc (.cells #[.int .u64 0, .int .u64 0, .int .u64 0, .int .u64 0] 58)).drew
  have hc1 := ((((Frm.Turn.refl [] w).alloc (.cells #[.int .u64 x, .pointer none] 85)).alloc lnO).drew).cell c0 (by simp)
  have hc2 := (((((Frm.Turn.refl [] w).alloc (.cells #[.int .u64 x, .pointer none] 85)).alloc lnO).alloc (.cells #[.int .u64 0, .int .u64 0, .int .u64 0, .int .u64 0] 58)).drew).cell c0 (by simp)
  unfold lnO at hlk hlk2 hc1 hc2
  obtain ⟨y0, y1, y2, y3, hy, hyv⟩ := nodeV4 (show ((D.know x).getD zero4).length = 4 by cases hk : D.know x with | none => rfl | some l => exact hK l hk)
  rw [hyv] at hlk hlk2
  obtain ⟨s, hs⟩ : ∃ s, s = (D.know x).isSome := ⟨_, rfl⟩
  rw [← hs] at hlk hlk2
  have HS := Lib.hid hs
  have HY := Lib.hid hy
  clear hs hy hyv hK
  have HV := Lib.hid (fun B => far_val (D := D) (B := B) h0 HY.out HS.out d)
  go_region
  all_goals
    obtain rfl | rfl | rfl | rfl : d = 0 ∨ d = 1 ∨ d = 2 ∨ d = 3 := by omega
  all_goals
    first | (obtain rfl : i = 0 := hi) | (obtain rfl : i = 1 := hi) | (obtain rfl : i = 2 := hi) | (obtain rfl : i = 3 := hi)
    go_wp2
    refine bodyPost_ret (v := .tuple #[lnV S.B ((D.below ⟨x, none⟩ _).getD ln0), .bool (D.below ⟨x, none⟩ _).isSome]) ?_ rfl ⟨rfl, ?_⟩
    · rw [HV.out]
      simp [results, Tryd.results66, go_sem]
    · first | exact (HT.out _ _ _).drewN _ | exact (HT.out _ _ _)
/-- A link that a draft may have. -/
def LnOk (D : Dr) (a : Ln) : Prop := W64 a.w ∧ ∀ k, a.k = some k → k < D.made.length
theorem below_any {w : World} {b : Nat} {S : Sh} {D : Dr} {N : Nat} (h : DAt w b S D N) (a : Ln) (ha : LnOk D a) (d : Nat) (hd : d < 4) :
    Calls Tryd.prog 66 #[.pointer (some ⟨b, 0, none⟩), lnV S.B a, .int .i64 d] w (BelowEnd w S D a d) := by
  obtain ⟨x, k⟩ := a
  cases k with
  | some k => exact below_kid h x k d (ha.2 k rfl) hd _ rfl
  | none =>
    by_cases h0 : x = 0
    · subst h0; exact below_zero d _
    · exact below_far h x d ha.1 h0 hd _ rfl
theorem lnok_top {D : Dr} {N : Nat} (h : Wf D N) (p : Place) : LnOk D (D.at p) := ⟨h.word p, fun k hk => (h.kid p k hk).1⟩
theorem lnok_below {D : Dr} {N : Nat} (h : Wf D N) {a x : Ln} {d : Nat} (ha : LnOk D a) (hb : D.below a d = some x) : LnOk D x := by
  refine ⟨below_word h ha.1 hb, fun k hk => ?_⟩
  unfold Dr.below at hb
  split at hb
  · cases hb; exact (h.kid _ k hk).1
  · split at hb
    · cases hb; cases hk
    · obtain ⟨l, hl, rfl⟩ := Option.map_eq_some_iff.1 hb
      cases hk
end Drf
end Go.Proofs.YtjginajnegahdaaDoor
