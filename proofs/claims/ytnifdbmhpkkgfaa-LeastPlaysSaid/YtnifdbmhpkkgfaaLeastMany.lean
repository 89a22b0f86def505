/- Several stocks beside one another, and the document's answers for them, in two rows. -/
import Derived.Test.YtnifdbmhpkkgfaaLeastRef2
import Derived.Test.YtnifdbmhpkkgfaaLeastClone
set_option linter.unusedVariables false
set_option linter.unusedSimpArgs false
namespace Go.Proofs.Ytnifdbmhpkkgfaa
namespace Lst
open Go.RowKit Hp

/-- A stock (block b, in the blocks F, state S) and the document's answer for it: the greatest that ever was, the slice v that holds the list l. -/
structure One where
  b : Nat
  F : List Nat
  S : St
  high : Nat
  v : Value
  l : List Nat
def One.ptr (x : One) : Value := .pointer (some ⟨x.b, 0, none⟩)
def One.cells (most : Nat) (x : One) : List Value := [.int .i64 (most : Int), .int .i64 (x.high : Int), x.v]
def rowOf (most : Nat) (st : List One) : List Value := st.flatMap (One.cells most)
/-- The two are one. -/
structure Agree (most : Nat) (x : One) : Prop where
  most : x.S.most = most
  high : x.high = x.S.high
  used : ∀ k : Int, x.S.used k = hasB x.l k
  nodup : x.l.Nodup
  len : x.l.length = x.S.len

theorem length_rowOf (most : Nat) (st : List One) : (rowOf most st).length = st.length * 3 := by
  induction st with
  | nil => rfl
  | cons x r ih => simp [rowOf, One.cells] at ih ⊢; omega
theorem rowOf_at (most : Nat) : ∀ (st : List One) (i r : Nat) (x : One), st[i]? = some x → r < 3 → (rowOf most st)[i * 3 + r]? = (x.cells most)[r]? := by
  intro st
  induction st with
  | nil => intro i r x h; simp at h
  | cons y t ih =>
    intro i r x h hr
    cases i with
    | zero =>
      simp at h; subst h
      obtain rfl | rfl | rfl : r = 0 ∨ r = 1 ∨ r = 2 := by omega
      all_goals simp [rowOf, One.cells]
    | succ i =>
      simp at h
      have := ih i r x h hr
      rw [show (i + 1) * 3 + r = i * 3 + r + 1 + 1 + 1 by omega]
      simpa [rowOf, One.cells] using this
theorem rowOf_set (most : Nat) : ∀ (st : List One) (i : Nat) (x y : One), st[i]? = some x →
    (((rowOf most st).set (i * 3) (.int .i64 (most : Int))).set (i * 3 + 1) (.int .i64 (y.high : Int))).set (i * 3 + 2) y.v = rowOf most (st.set i y) := by
  intro st
  induction st with
  | nil => intro i x y h; simp at h
  | cons z t ih =>
    intro i x y h
    cases i with
    | zero => simp [rowOf, One.cells]
    | succ i =>
      simp at h
      have := ih i x y h
      have e0 : (i + 1) * 3 = i * 3 + 2 + 1 := by omega
      have e1 : (i + 1) * 3 + 1 = i * 3 + 1 + 2 + 1 := by omega
      have e2 : (i + 1) * 3 + 2 = i * 3 + 2 + 2 + 1 := by omega
      simp only [rowOf, One.cells, List.flatMap_cons, List.set_cons_succ, List.cons_append, List.nil_append] at this ⊢
      rw [e1, e2, e0]
      simp only [List.set_cons_succ, show i * 3 + 2 = i * 3 + 1 + 1 from rfl, show i * 3 + 1 + 2 = i * 3 + 1 + 1 + 1 from rfl, show i * 3 + 2 + 2 = i * 3 + 2 + 1 + 1 from rfl]
      rw [← this]

structure Each (w0 w : World) (ga gw : Nat) (x : One) : Prop where
  stock : StockAt w x.b x.F x.S
  list : LAt w x.v x.l
  new : ∀ k, k ∈ x.F → w0.heap.size ≤ k ∧ k ≠ ga ∧ k ≠ gw
  far : ∀ k, x.v.ownBlock = some k → w0.heap.size ≤ k ∧ k ≠ ga ∧ k ≠ gw
/-- The two rows, and all that stands in them. -/
structure Many (w0 w : World) (most : Nat) (st : List One) (ga ca gw cw : Nat) : Prop where
  turn : Frm.Turn [] w0 w
  few : st.length ≤ 4
  pos : 0 < st.length
  all : w.ownsRow 0 24 1 (.slice (some ⟨ga, 0, none⟩) st.length ca) st.length (st.map One.ptr)
  want : w.ownsRow 0 37 3 (.slice (some ⟨gw, 0, none⟩) st.length cw) st.length (rowOf most st)
  newA : w0.heap.size ≤ ga
  newW : w0.heap.size ≤ gw
  ne : ga ≠ gw
  each : ∀ (i : Nat) (x : One), st[i]? = some x → Each w0 w ga gw x
  apart : ∀ (i j : Nat) (x y : One), i ≠ j → st[i]? = some x → st[j]? = some y → ∀ k, k ∈ x.F → k ∉ y.F
  side : ∀ (i j : Nat) (x y : One), st[i]? = some x → st[j]? = some y → ∀ k, y.v.ownBlock = some k → k ∉ x.F

theorem Each.turn {w0 w w' : World} {ga gw : Nat} {x : One} {F : List Nat} (h : Each w0 w ga gw x) (ht : Frm.Turn F w w') (h1 : ∀ k, k ∈ x.F → k ∉ F) (h2 : ∀ k, x.v.ownBlock = some k → k ∉ F) : Each w0 w' ga gw x :=
  ⟨h.stock.turn ht h1, h.list.turn ht h2, h.new, h.far⟩
theorem Many.lt {w0 w : World} {most : Nat} {st : List One} {ga ca gw cw : Nat} (h : Many w0 w most st ga ca gw cw) : ga < w.heap.size ∧ gw < w.heap.size :=
  ⟨(World.ownsRow.lt h.all ga rfl).2, (World.ownsRow.lt h.want gw rfl).2⟩
/-- Nothing of it turns. -/
theorem Many.step {w0 w w' : World} {most : Nat} {st : List One} {ga ca gw cw : Nat} (h : Many w0 w most st ga ca gw cw) (ht : Frm.Turn [] w w') : Many w0 w' most st ga ca gw cw :=
  ⟨h.turn.trans ht (by simp), h.few, h.pos, Frm.owns_turn h.all ht (by simp), Frm.owns_turn h.want ht (by simp), h.newA, h.newW, h.ne, fun i x hx => (h.each i x hx).turn ht (by simp) (by simp), h.apart, h.side⟩
theorem get_set {α : Type} {l : List α} {i j : Nat} {x y : α} (h : (l.set i y)[j]? = some x) : (j = i ∧ x = y) ∨ (j ≠ i ∧ l[j]? = some x) := by
  rw [List.getElem?_set] at h
  by_cases e : i = j
  · subst e
    rw [if_pos rfl] at h
    split at h
    · cases h; exact Or.inl ⟨rfl, rfl⟩
    · cases h
  · rw [if_neg e] at h
    exact Or.inr ⟨fun e' => e e'.symm, h⟩
/-- One stock takes a step. -/
theorem Many.stock {w0 w w' : World} {most : Nat} {st : List One} {ga ca gw cw i : Nat} {x : One} {F' : List Nat} {S' : St} (h : Many w0 w most st ga ca gw cw) (hx : st[i]? = some x)
    (hs : StockAt w' x.b F' S') (ht : Frm.Turn x.F w w') (hf : ∀ k, k ∈ F' → k ∈ x.F ∨ w.heap.size ≤ k) : Many w0 w' most (st.set i { x with F := F', S := S' }) ga ca gw cw := by
  have hi : i < st.length := (List.getElem?_eq_some_iff.1 hx).1
  have hE := h.each i x hx
  obtain ⟨l1, l2⟩ := h.lt
  have hsz := h.turn.size
  have hA : ∀ k, (Value.slice (some ⟨ga, 0, none⟩) st.length ca).ownBlock = some k → k ∉ x.F := fun k hk => by
    simp [Value.ownBlock] at hk; subst hk; exact fun hc => (hE.new _ hc).2.1 rfl
  have hW : ∀ k, (Value.slice (some ⟨gw, 0, none⟩) st.length cw).ownBlock = some k → k ∉ x.F := fun k hk => by
    simp [Value.ownBlock] at hk; subst hk; exact fun hc => (hE.new _ hc).2.2 rfl
  have e1 : (st.set i { x with F := F', S := S' }).map One.ptr = st.map One.ptr := by
    rw [List.map_set]
    apply List.ext_getElem?
    intro j
    rw [List.getElem?_set]
    split
    · rename_i e; subst e
      simp [hi, One.ptr]
      have := (List.getElem?_eq_some_iff.1 hx).2
      rw [this]
    · rfl
  have e2 : rowOf most (st.set i { x with F := F', S := S' }) = rowOf most st := by
    rw [← rowOf_set most st i x _ hx]
    have g0 := rowOf_at most st i 0 x hx (by omega)
    have g1 := rowOf_at most st i 1 x hx (by omega)
    have g2 := rowOf_at most st i 2 x hx (by omega)
    simp [One.cells] at g0 g1 g2
    apply List.ext_getElem?
    intro j
    simp only [List.getElem?_set, List.length_set]
    have hl := length_rowOf most st
    by_cases c2 : i * 3 + 2 = j
    · subst c2; rw [if_pos rfl, if_pos (by omega), g2]
    · rw [if_neg c2]
      by_cases c1 : i * 3 + 1 = j
      · subst c1; rw [if_pos rfl, if_pos (by omega), g1]
      · rw [if_neg c1]
        by_cases c0 : i * 3 = j
        · subst c0; rw [if_pos rfl, if_pos (by omega), g0]
        · rw [if_neg c0]
  have hfar : ∀ k, k ∈ F' → w0.heap.size ≤ k ∧ k ≠ ga ∧ k ≠ gw := fun k hk => by
    rcases hf k hk with h1 | h1
    · exact hE.new k h1
    · omega
  refine ⟨h.turn.trans ht (fun k hk => Or.inr (hE.new k hk).1), by simpa using h.few, by simpa using h.pos, ?_, ?_, h.newA, h.newW, h.ne, fun j y hy => ?_, fun j k y z hjk hy hz q hq => ?_, fun j k y z hy hz q hq => ?_⟩
  · rw [e1, List.length_set]; exact Frm.owns_turn h.all ht hA
  · rw [e2, List.length_set]; exact Frm.owns_turn h.want ht hW
  · rcases get_set hy with ⟨_, rfl⟩ | ⟨hne, hy⟩
    · exact ⟨hs, hE.list.turn ht (fun k hk => h.side i i x x hx hx k hk), hfar, hE.far⟩
    · exact (h.each j y hy).turn ht (fun k hk => h.apart j i y x hne hy hx k hk) (fun k hk => h.side i j x y hx hy k hk)
  · rcases get_set hy with ⟨q1, q2⟩ | ⟨hne, hy1⟩
    · rcases get_set hz with ⟨q3, q4⟩ | ⟨hnz, hz1⟩
      · exact absurd (q1.trans q3.symm) hjk
      · subst q1 q2
        rcases hf q hq with h1 | h1
        · exact h.apart j k x z hjk hx hz1 q h1
        · intro hc
          have := (h.each k z hz1).stock.lt q hc
          omega
    · rcases get_set hz with ⟨q3, q4⟩ | ⟨hnz, hz1⟩
      · subst q3 q4
        intro hc
        rcases hf q hc with h1 | h1
        · exact h.apart j k y x hjk hy1 hx q hq h1
        · have := (h.each j y hy1).stock.lt q hq
          omega
      · exact h.apart j k y z hjk hy1 hz1 q hq
  · have hz' : ∃ z', st[k]? = some z' ∧ z'.v = z.v ∧ z'.l = z.l := by
      rcases get_set hz with ⟨rfl, rfl⟩ | ⟨_, hz⟩
      · exact ⟨x, hx, rfl, rfl⟩
      · exact ⟨z, hz, rfl, rfl⟩
    obtain ⟨z', hz', hv, hl⟩ := hz'
    rw [← hv] at hq
    have hlt := (h.each k z' hz').list.lt q hq
    rcases get_set hy with ⟨rfl, rfl⟩ | ⟨hne, hy⟩
    · intro hc
      rcases hf q hc with h1 | h1
      · exact h.side j k x z' hx hz' q hq h1
      · omega
    · exact h.side j k y z' hy hz' q hq
/-- The document's answer at one place is written anew. -/
theorem Many.store {w0 w : World} {most : Nat} {st : List One} {ga ca gw cw i high' : Nat} {x : One} {v' : Value} {l' : List Nat} (h : Many w0 w most st ga ca gw cw) (hx : st[i]? = some x)
    (hl : LAt w v' l') (hv : ∀ k, v'.ownBlock = some k → w0.heap.size ≤ k ∧ k ≠ ga ∧ k ≠ gw ∧ ∀ (j : Nat) (y : One), st[j]? = some y → k ∉ y.F) :
    Many w0 (((w.setCell ⟨gw, i * 3, none⟩ (.int .i64 (most : Int))).setCell ⟨gw, i * 3 + 1, none⟩ (.int .i64 (high' : Int))).setCell ⟨gw, i * 3 + 2, none⟩ v') most (st.set i { x with high := high', v := v', l := l' }) ga ca gw cw := by
  have hi : i < st.length := (List.getElem?_eq_some_iff.1 hx).1
  have s1 := World.ownsRow.stored h.want (i * 3) (.int .i64 (most : Int))
  have s2 := World.ownsRow.stored s1.1 (i * 3 + 1) (.int .i64 (high' : Int))
  have s3 := World.ownsRow.stored s2.1 (i * 3 + 2) v'
  have hT : Frm.Turn [gw] w (((w.setCell ⟨gw, i * 3, none⟩ (.int .i64 (most : Int))).setCell ⟨gw, i * 3 + 1, none⟩ (.int .i64 (high' : Int))).setCell ⟨gw, i * 3 + 2, none⟩ v') :=
    (((Frm.Turn.refl _ _).setCell (Or.inl (by simp)) _).setCell (Or.inl (by simp)) _).setCell (Or.inl (by simp)) _
  have e1 : (st.set i { x with high := high', v := v', l := l' }).map One.ptr = st.map One.ptr := by
    rw [List.map_set]
    apply List.ext_getElem?
    intro j
    rw [List.getElem?_set]
    split
    · rename_i e; subst e
      simp [hi, One.ptr]
      have := (List.getElem?_eq_some_iff.1 hx).2
      rw [this]
    · rfl
  have e2 := rowOf_set most st i x { x with high := high', v := v', l := l' } hx
  have hne := h.ne
  refine ⟨h.turn.trans hT (fun k hk => by simp at hk; subst hk; exact Or.inr h.newW), by simpa using h.few, by simpa using h.pos, ?_, ?_, h.newA, h.newW, h.ne, fun j y hy => ?_, fun j k y z hjk hy hz q hq => ?_, fun j k y z hy hz q hq => ?_⟩
  · rw [e1, List.length_set]; exact Frm.owns_turn h.all hT (fun k hk => by simp [Value.ownBlock] at hk; simp; omega)
  · rw [← e2, List.length_set]; exact s3.1
  · rcases get_set hy with ⟨_, rfl⟩ | ⟨hne, hy⟩
    · have hE := h.each i x hx
      exact ⟨hE.stock.turn hT (fun k hk => by have := (hE.new k hk).2.2; simpa using this), hl.turn hT (fun k hk => by have := (hv k hk).2.2.1; simpa using this), hE.new, fun k hk => ⟨(hv k hk).1, (hv k hk).2.1, (hv k hk).2.2.1⟩⟩
    · have hE := h.each j y hy
      exact hE.turn hT (fun k hk => by have := (hE.new k hk).2.2; simpa using this) (fun k hk => by have := (hE.far k hk).2.2; simpa using this)
  · have hy' : ∃ y', st[j]? = some y' ∧ y'.F = y.F := by
      rcases get_set hy with ⟨rfl, rfl⟩ | ⟨_, hy⟩
      · exact ⟨x, hx, rfl⟩
      · exact ⟨y, hy, rfl⟩
    have hz' : ∃ z', st[k]? = some z' ∧ z'.F = z.F := by
      rcases get_set hz with ⟨rfl, rfl⟩ | ⟨_, hz⟩
      · exact ⟨x, hx, rfl⟩
      · exact ⟨z, hz, rfl⟩
    obtain ⟨y', hy', e3⟩ := hy'
    obtain ⟨z', hz', e4⟩ := hz'
    rw [← e4]
    exact h.apart j k y' z' hjk hy' hz' q (by rw [e3]; exact hq)
  · have hy' : ∃ y', st[j]? = some y' ∧ y'.F = y.F := by
      rcases get_set hy with ⟨rfl, rfl⟩ | ⟨_, hy⟩
      · exact ⟨x, hx, rfl⟩
      · exact ⟨y, hy, rfl⟩
    obtain ⟨y', hy', e3⟩ := hy'
    rw [← e3]
    rcases get_set hz with ⟨rfl, rfl⟩ | ⟨_, hz⟩
    · exact (hv q hq).2.2.2 j y' hy'
    · exact h.side j k y' z hy' hz q hq

/-- One more stands behind the others: both rows have grown. -/
theorem Many.more {w0 w w2 : World} {most : Nat} {st : List One} {ga ca gw cw : Nat} {y : One} {va vw : Value} (h : Many w0 w most st ga ca gw cw) (hfew : st.length < 4)
    (ht : Frm.Turn [ga, gw] w w2) (ha : w2.ownsRow 0 24 1 va (st.length + 1) (st.map One.ptr ++ [y.ptr])) (hw : w2.ownsRow 0 37 3 vw (st.length + 1) (rowOf most st ++ y.cells most))
    (hva : ∀ k, va.ownBlock = some k → (k = ga ∨ w.heap.size ≤ k)) (hvw : ∀ k, vw.ownBlock = some k → (k = gw ∨ w.heap.size ≤ k)) (hne : ∀ k, va.ownBlock = some k → vw.ownBlock ≠ some k)
    (hs : StockAt w2 y.b y.F y.S) (hl : LAt w2 y.v y.l) (hn : ∀ k, k ∈ y.F → w.heap.size ≤ k ∧ va.ownBlock ≠ some k ∧ vw.ownBlock ≠ some k) (hv : ∃ (i : Nat) (x : One), st[i]? = some x ∧ x.v = y.v) :
    ∃ ga' ca' gw' cw', va = .slice (some ⟨ga', 0, none⟩) (st.length + 1) ca' ∧ vw = .slice (some ⟨gw', 0, none⟩) (st.length + 1) cw' ∧ Many w0 w2 most (st ++ [y]) ga' ca' gw' cw' := by
  obtain ⟨ga', ca', ea⟩ : ∃ ga' ca', va = .slice (some ⟨ga', 0, none⟩) (st.length + 1) ca' := by
    rcases ha.2 with ⟨_, h0⟩ | ⟨g, c, cur, e, _⟩
    · omega
    · exact ⟨g, c, e⟩
  obtain ⟨gw', cw', ew⟩ : ∃ gw' cw', vw = .slice (some ⟨gw', 0, none⟩) (st.length + 1) cw' := by
    rcases hw.2 with ⟨_, h0⟩ | ⟨g, c, cur, e, _⟩
    · omega
    · exact ⟨g, c, e⟩
  subst ea ew
  have ba : ga' = ga ∨ w.heap.size ≤ ga' := hva ga' rfl
  have bw : gw' = gw ∨ w.heap.size ≤ gw' := hvw gw' rfl
  have bne : ga' ≠ gw' := fun e => hne ga' rfl (by rw [e]; rfl)
  have hsz := h.turn.size
  obtain ⟨l1, l2⟩ := h.lt
  have hn1 := h.newA
  have hn2 := h.newW
  have hlen : (st ++ [y]).length = st.length + 1 := by simp
  obtain ⟨iv, xv, hxv, ev⟩ := hv
  have get : ∀ (i : Nat) (x : One), (st ++ [y])[i]? = some x → st[i]? = some x ∨ (i = st.length ∧ x = y) := fun i x hx => by
    rw [List.getElem?_append] at hx
    split at hx
    · exact Or.inl hx
    · rename_i hge
      right
      have hi : i - st.length = 0 := by
        rcases Nat.eq_zero_or_pos (i - st.length) with e | e
        · exact e
        · rw [List.getElem?_eq_none (by simp; omega)] at hx; cases hx
      rw [hi] at hx
      simp at hx
      exact ⟨by omega, hx.symm⟩
  refine ⟨ga', ca', gw', cw', rfl, rfl, h.turn.trans ht (fun k hk => by simp at hk; right; rcases hk with rfl | rfl <;> assumption), by omega, by omega, ?_, ?_, by omega, by omega, bne, fun i x hx => ?_, fun i j x z hij hx hz q hq => ?_, fun i j x z hx hz q hq => ?_⟩
  · rw [hlen, List.map_append]; exact ha
  · rw [hlen]
    have : rowOf most (st ++ [y]) = rowOf most st ++ y.cells most := by simp [rowOf]
    rw [this]; exact hw
  · rcases get i x hx with hx | ⟨_, rfl⟩
    · have hE := h.each i x hx
      have f1 : ∀ k, k ∈ x.F → k ∉ [ga, gw] := fun k hk => by have := hE.new k hk; simp; exact this.2
      have f2 : ∀ k, x.v.ownBlock = some k → k ∉ [ga, gw] := fun k hk => by have := hE.far k hk; simp; exact this.2
      refine ⟨hE.stock.turn ht f1, hE.list.turn ht f2, fun k hk => ?_, fun k hk => ?_⟩
      · have h1 := hE.new k hk
        have h2 := hE.stock.lt k hk
        omega
      · have h1 := hE.far k hk
        have h2 := hE.list.lt k hk
        omega
    · refine ⟨hs, hl, fun k hk => ?_, fun k hk => ?_⟩
      · obtain ⟨h1, h2, h3⟩ := hn k hk
        refine ⟨by omega, fun e => h2 (by rw [e]; rfl), fun e => h3 (by rw [e]; rfl)⟩
      · have hE := h.each iv xv hxv
        rw [← ev] at hk
        have h1 := hE.far k hk
        have h2 := hE.list.lt k hk
        omega
  · rcases get i x hx with hx1 | ⟨e1, e2⟩
    · rcases get j z hz with hz1 | ⟨e3, e4⟩
      · exact h.apart i j x z hij hx1 hz1 q hq
      · subst e4
        intro hc
        have h1 := (hn q hc).1
        have h2 := (h.each i x hx1).stock.lt q hq
        omega
    · rcases get j z hz with hz1 | ⟨e3, e4⟩
      · subst e2
        intro hc
        have h1 := (hn q hq).1
        have h2 := (h.each j z hz1).stock.lt q hc
        omega
      · exact absurd (e1.trans e3.symm) hij
  · have hz' : ∃ (j' : Nat) (z' : One), st[j']? = some z' ∧ z'.v = z.v := by
      rcases get j z hz with hz1 | ⟨e3, e4⟩
      · exact ⟨j, z, hz1, rfl⟩
      · subst e4; exact ⟨iv, xv, hxv, ev⟩
    obtain ⟨j', z', hz', e5⟩ := hz'
    rw [← e5] at hq
    rcases get i x hx with hx1 | ⟨e1, e2⟩
    · exact h.side i j' x z' hx1 hz' q hq
    · subst e2
      intro hc
      have h1 := (hn q hc).1
      have h2 := (h.each j' z' hz').list.lt q hq
      omega

theorem Agree.take {most : Nat} {x : One} {n : Nat} {S' : St} {F' : List Nat} {v' : Value} (h : Agree most x) (ht : Took x.S n S') (hn : n ∉ x.l) :
    Agree most { x with F := F', S := S', high := max x.high n, v := v', l := x.l ++ [n] } := by
  refine ⟨ht.most.trans h.most, ?_, fun k => ?_, ?_, ?_⟩
  · show max x.high n = S'.high
    rw [ht.high, h.high]
  · show S'.used k = hasB (x.l ++ [n]) k
    rw [ht.used, h.used, Bool.eq_iff_iff]
    simp only [hasB, Bool.or_eq_true, Bool.and_eq_true, decide_eq_true_eq, List.contains_iff_mem, List.mem_append, List.mem_singleton]
    constructor
    · rintro (⟨a, b⟩ | rfl)
      · exact ⟨a, Or.inl b⟩
      · exact ⟨by omega, Or.inr (by omega)⟩
    · rintro ⟨a, b | b⟩
      · exact Or.inl ⟨a, b⟩
      · exact Or.inr (by omega)
  · show (x.l ++ [n]).Nodup
    rw [List.nodup_append]
    exact ⟨h.nodup, by simp, fun a ha b hb e => by simp at hb; subst hb; subst e; exact hn ha⟩
  · show (x.l ++ [n]).length = S'.len
    rw [ht.len, ← h.len]; simp
theorem strike_len {l : List Nat} (h : l.Nodup) {k : Int} (hk : hasB l k = true) : (strike l k).length + 1 = l.length := by
  induction l with
  | nil => simp [hasB] at hk
  | cons a r ih =>
    obtain ⟨h1, h2⟩ := List.nodup_cons.1 h
    by_cases e : (a : Int) = k
    · have : strike r k = r := by
        unfold strike
        rw [List.filter_eq_self]
        intro x hx
        simp
        intro e2
        exact h1 (by have : a = x := by omega
                     rw [this]; exact hx)
      have e3 : strike (a :: r) k = strike r k := by simp [strike, e]
      rw [e3, this]; simp
    · have hk' : hasB r k = true := by
        simp [hasB] at hk ⊢
        refine ⟨hk.1, ?_⟩
        rcases hk.2 with h | h
        · omega
        · exact h
      have := ih h2 hk'
      have e3 : strike (a :: r) k = a :: strike r k := by simp [strike, e]
      rw [e3]; simp; omega
theorem hasB_strike (l : List Nat) (k j : Int) : hasB (strike l k) j = (hasB l j && decide (j ≠ k)) := by
  rw [Bool.eq_iff_iff]
  simp [hasB, strike]
  constructor
  · rintro ⟨a, b, c⟩; exact ⟨⟨a, b⟩, by omega⟩
  · rintro ⟨⟨a, b⟩, c⟩; exact ⟨a, b, by omega⟩
theorem Agree.give {most : Nat} {x : One} {k : Int} {S' : St} {F' : List Nat} {v' : Value} (h : Agree most x) (hg : Gave x.S k S') :
    Agree most { x with F := F', S := S', v := v', l := strike x.l k } := by
  refine ⟨hg.most.trans h.most, h.high.trans hg.high.symm, fun j => ?_, h.nodup.filter _, ?_⟩
  · show S'.used j = hasB (strike x.l k) j
    rw [hg.used, h.used, hasB_strike]
  · have h1 := strike_len h.nodup (k := k) (by rw [← h.used]; exact hg.was)
    have h2 := hg.len
    have h3 := h.len
    show (strike x.l k).length = S'.len
    omega
theorem strike_none {l : List Nat} {k : Int} (h : hasB l k = false) : strike l k = l := by
  unfold strike
  rw [List.filter_eq_self]
  intro x hx
  obtain ⟨i, hi, e⟩ := mem_at hx
  have := hasB_false.1 h i hi
  rw [e] at this
  simpa using this

theorem idx_any (y : Int) (n : Nat) (h : 0 < n) (h4 : n ≤ 4) : ∃ i : Nat, i < n ∧ wrap64 ((IntKind.u64.wrap y).tmod (n : Int)) = (i : Int) := by
  have hu : 0 ≤ IntKind.u64.wrap y := by simp [IntKind.wrap, IntKind.signed, IntKind.bits]; omega
  rw [Int.tmod_eq_emod_of_nonneg hu]
  have h1 := Int.emod_nonneg (IntKind.u64.wrap y) (show (n : Int) ≠ 0 by omega)
  have h2 := Int.emod_lt_of_pos (IntKind.u64.wrap y) (show (0 : Int) < n by omega)
  refine ⟨((IntKind.u64.wrap y) % (n : Int)).toNat, by omega, ?_⟩
  unfold wrap64
  omega
theorem Many.ptr_at {w0 w : World} {most : Nat} {st : List One} {ga ca gw cw i : Nat} {x : One} (h : Many w0 w most st ga ca gw cw) (hx : st[i]? = some x) : w.cell? ⟨ga, i, none⟩ = some (.pointer (some ⟨x.b, 0, none⟩)) := by
  have hi : i < st.length := (List.getElem?_eq_some_iff.1 hx).1
  rw [World.ownsRow.cellAt h.all i (by omega), List.getElem?_map, hx]; rfl
theorem Many.cell_at {w0 w : World} {most : Nat} {st : List One} {ga ca gw cw i : Nat} {x : One} (h : Many w0 w most st ga ca gw cw) (hx : st[i]? = some x) :
    w.cell? ⟨gw, i * 3, none⟩ = some (.int .i64 (most : Int)) ∧ w.cell? ⟨gw, i * 3 + 1, none⟩ = some (.int .i64 (x.high : Int)) ∧ w.cell? ⟨gw, i * 3 + 2, none⟩ = some x.v := by
  have hi : i < st.length := (List.getElem?_eq_some_iff.1 hx).1
  have g0 := rowOf_at most st i 0 x hx (by omega)
  have g1 := rowOf_at most st i 1 x hx (by omega)
  have g2 := rowOf_at most st i 2 x hx (by omega)
  refine ⟨?_, ?_, ?_⟩
  · rw [World.ownsRow.cellAt h.want (i * 3) (by omega)]; exact g0
  · rw [World.ownsRow.cellAt h.want (i * 3 + 1) (by omega), g1]; rfl
  · rw [World.ownsRow.cellAt h.want (i * 3 + 2) (by omega), g2]; rfl
theorem Many.thaw_at {w0 w : World} {most : Nat} {st : List One} {ga ca gw cw : Nat} (h : Many w0 w most st ga ca gw cw) (j : Nat) : w.frozen? ⟨gw, j, none⟩ = false := World.ownsRow.frozenAt h.want j

theorem many_take_is {w0 w : World} {most : Nat} {st : List One} {ga ca gw cw i : Nat} {x : One} (h : Many w0 w most st ga ca gw cw) (hx : st[i]? = some x) (n : Nat) (h1 : 1 ≤ n) (h2 : n ≤ x.S.most) (hu : x.S.used n = false) (hl : ∀ k : Int, 1 ≤ k → k < n → x.S.used k = true) :
    Calls Try.prog 8 #[.pointer (some ⟨x.b, 0, none⟩)] w fun e w' => e = .returned (.tuple #[.int .i64 (n : Int), .int .i64 0]) ∧ ∃ S' F', Took x.S n S' ∧ Many w0 w' most (st.set i { x with F := F', S := S' }) ga ca gw cw :=
  (take_any x.b x.F x.S w (h.each i x hx).stock).mono fun e w' he => by
    rcases he with ⟨y, S', F', e, ht, hs, hT, hf⟩ | ⟨_, _, hf, _⟩
    · have hyx : y = n := by
        rcases Nat.lt_trichotomy y n with hlt | he | hgt
        · have := hl y (by have := ht.lo; omega) (by omega)
          rw [ht.free] at this; cases this
        · exact he
        · have := ht.least n (by omega) (by omega)
          rw [hu] at this; cases this
      subst hyx
      exact ⟨e, S', F', ht, h.stock hx hs hT hf⟩
    · have := hf n (by omega) (by omega)
      rw [hu] at this; cases this
theorem many_take_full {w0 w : World} {most : Nat} {st : List One} {ga ca gw cw i : Nat} {x : One} (h : Many w0 w most st ga ca gw cw) (hx : st[i]? = some x) (hf : ∀ k : Int, 1 ≤ k → k ≤ x.S.most → x.S.used k = true) :
    Calls Try.prog 8 #[.pointer (some ⟨x.b, 0, none⟩)] w fun e w' => e = .returned (.tuple #[.int .i64 0, .int .i64 20]) ∧ Many w0 w' most st ga ca gw cw :=
  (take_any x.b x.F x.S w (h.each i x hx).stock).mono fun e w' he => by
    rcases he with ⟨y, S', F', e, ht, _⟩ | ⟨e, _, _, _, hT⟩
    · have := hf y (by have := ht.lo; omega) (by have := ht.hi; omega)
      rw [ht.free] at this; cases this
    · exact ⟨e, h.step hT⟩
theorem many_give_yes {w0 w : World} {most : Nat} {st : List One} {ga ca gw cw i : Nat} {x : One} (h : Many w0 w most st ga ca gw cw) (hx : st[i]? = some x) (k : Int) (hk : (Lit.int .i64 k).wf = true) (hu : x.S.used k = true) :
    Calls Try.prog 9 #[.pointer (some ⟨x.b, 0, none⟩), .int .i64 k] w fun e w' => e = .returned (.int .i64 0) ∧ (∃ S' F', Gave x.S k S' ∧ Many w0 w' most (st.set i { x with F := F', S := S' }) ga ca gw cw) ∧ Frm.Turn x.F w w' :=
  (give_any x.b x.F x.S k w (h.each i x hx).stock hk).mono fun e w' he => by
    rcases he with ⟨S', F', e, hg, hs, hT, hf⟩ | ⟨_, hn, _⟩
    · exact ⟨e, ⟨S', F', hg, h.stock hx hs hT hf⟩, hT⟩
    · rw [hu] at hn; cases hn
theorem many_give_no {w0 w : World} {most : Nat} {st : List One} {ga ca gw cw i : Nat} {x : One} (h : Many w0 w most st ga ca gw cw) (hx : st[i]? = some x) (k : Int) (hk : (Lit.int .i64 k).wf = true) (hu : x.S.used k = false) :
    Calls Try.prog 9 #[.pointer (some ⟨x.b, 0, none⟩), .int .i64 k] w fun e w' => e = .returned (.int .i64 21) ∧ Many w0 w' most st ga ca gw cw ∧ Frm.Turn x.F w w' :=
  (give_any x.b x.F x.S k w (h.each i x hx).stock hk).mono fun e w' he => by
    rcases he with ⟨S', F', e, hg, _⟩ | ⟨e, _, _, hT⟩
    · rw [hg.was] at hu; cases hu
    · exact ⟨e, h.step hT, hT.mono (by simp)⟩
theorem many_used {w0 w : World} {most : Nat} {st : List One} {ga ca gw cw i : Nat} {x : One} (h : Many w0 w most st ga ca gw cw) (hx : st[i]? = some x) (k : Int) (t : Bool) (hk : (Lit.int .i64 k).wf = true) (hu : x.S.used k = t) :
    Calls Try.prog 10 #[.pointer (some ⟨x.b, 0, none⟩), .int .i64 k] w fun e w' => e = .returned (.bool t) ∧ Many w0 w' most st ga ca gw cw :=
  (used_any x.b x.F x.S k w (h.each i x hx).stock hk).mono fun e w' ⟨he, hT⟩ => ⟨by rw [he, hu], h.step hT⟩
theorem many_len {w0 w : World} {most : Nat} {st : List One} {ga ca gw cw i : Nat} {x : One} (h : Many w0 w most st ga ca gw cw) (hx : st[i]? = some x) (n : Nat) (hn : x.S.len = n) :
    Calls Try.prog 11 #[.pointer (some ⟨x.b, 0, none⟩)] w fun e w' => e = .returned (.int .i64 (n : Int)) ∧ w = w' :=
  (slen_any x.b x.F x.S w (h.each i x hx).stock).mono fun e w' ⟨he, hT⟩ => ⟨by rw [he, hn], hT⟩
theorem many_high {w0 w : World} {most : Nat} {st : List One} {ga ca gw cw i : Nat} {x : One} (h : Many w0 w most st ga ca gw cw) (hx : st[i]? = some x) (n : Nat) (hn : x.S.high = n) :
    Calls Try.prog 12 #[.pointer (some ⟨x.b, 0, none⟩)] w fun e w' => e = .returned (.int .i64 (n : Int)) ∧ w = w' :=
  (high_any x.b x.F x.S w (h.each i x hx).stock).mono fun e w' ⟨he, hT⟩ => ⟨by rw [he, hn], hT⟩
/-- The start: one stock. -/
theorem many_one {w0 w : World} {most b : Nat} (h : Own w0 w b ⟨most, 0, []⟩) :
    ∃ F, Many w0 ((w.alloc (.cells #[.pointer (some ⟨b, 0, none⟩)] 24)).alloc (.cells #[.int .i64 (most : Int), .int .i64 0, .slice none 0 0] 37)) most [⟨b, F, ⟨most, 0, []⟩, 0, .slice none 0 0, []⟩] w.heap.size 1 (w.heap.size + 1) 1 := by
  obtain ⟨F, hs, hT, hF⟩ := h
  have hsz := hT.size
  have hlt := hs.lt
  have hTT : Frm.Turn [] w ((w.alloc (.cells #[.pointer (some ⟨b, 0, none⟩)] 24)).alloc (.cells #[.int .i64 (most : Int), .int .i64 0, .slice none 0 0] 37)) := ((Frm.Turn.refl [] w).alloc _).alloc _
  have ha := World.ownsRow_lit (base := 0) (e := 24) (size := 1) w #[.pointer (some ⟨b, 0, none⟩)] 1 (Nat.zero_le _) (by simp [maxLen]) rfl
  have hw := World.ownsRow_lit (base := 0) (e := 37) (size := 3) (w.alloc (.cells #[.pointer (some ⟨b, 0, none⟩)] 24)) #[.int .i64 (most : Int), .int .i64 0, .slice none 0 0] 1 (Nat.zero_le _) (by simp [maxLen]) rfl
  rw [World.size_alloc] at hw
  refine ⟨F, hT.trans hTT (by simp), by simp, by simp, ha.alloc _, hw, hsz, by omega, by omega, fun i x hx => ?_, fun i j x y hij hx hy => ?_, fun i j x y hx hy k hk => ?_⟩
  · cases i with
    | zero =>
      simp at hx; subst hx
      exact ⟨hs.turn hTT (by simp), World.ownsRow_nil _ _ _ _, fun k hk => by have h1 := hF k hk; have h2 := hlt k hk; omega, by simp [Value.ownBlock]⟩
    | succ i => simp at hx
  · cases i <;> cases j <;> simp_all
  · cases j with
    | zero => simp at hy; subst hy; simp [Value.ownBlock] at hk
    | succ j => simp at hy
theorem agree_one (most b : Nat) (F : List Nat) : Agree most ⟨b, F, ⟨most, 0, []⟩, 0, .slice none 0 0, []⟩ :=
  ⟨rfl, rfl, fun k => by rw [used_new]; simp [hasB], by simp, rfl⟩
end Lst
end Go.Proofs.Ytnifdbmhpkkgfaa
