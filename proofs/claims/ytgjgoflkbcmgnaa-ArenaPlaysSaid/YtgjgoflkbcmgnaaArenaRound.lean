/- Several arenas beside one another, and the document's answers for them, in two rows. -/
/- A round of ArenaPlays: an operation in its box, an arena of the row, the document's answer for it in a box of its own. -/
import Derived.Test.YtgjgoflkbcmgnaaArenaRefAll
import Derived.Deep.MidRow
import Derived.Test.YtgjgoflkbcmgnaaArenaBox
set_option linter.unusedVariables false
set_option linter.unusedSimpArgs false
namespace Go.Proofs.Ytgjgoflkbcmgnaa
namespace Arn
open Go.RowKit Hp Go.Maps

/-- An arena (block b, its parts M, state A) and the document's answer for it: its state R, its cells cs, by value, the blocks G that these reach. -/
structure One where
  b : Nat
  M : Mem
  A : Ar
  R : Ar
  cs : Array Value
  G : List Nat
def One.F (x : One) : List Nat := x.M.foot x.b
def One.ptr (x : One) : Value := .pointer (some ⟨x.b, 0, none⟩)
def rowOf (st : List One) : List Value := st.flatMap fun x => x.cs.toList
theorem length_rowOf (st : List One) (h : ∀ x, x ∈ st → x.cs.size = 20) : (rowOf st).length = st.length * 20 := by
  induction st with
  | nil => rfl
  | cons x r ih =>
    have h1 := h x (by simp)
    have h2 := ih (fun y hy => h y (by simp [hy]))
    simp [rowOf] at h2 ⊢
    omega
theorem rowOf_at : ∀ (st : List One) (_ : ∀ x, x ∈ st → x.cs.size = 20) (i r : Nat) (x : One), st[i]? = some x → r < 20 → (rowOf st)[i * 20 + r]? = x.cs[r]? := by
  intro st
  induction st with
  | nil => intro _ i r x h; simp at h
  | cons y t ih =>
    intro h i r x hx hr
    have hy := h y (by simp)
    have e : rowOf (y :: t) = y.cs.toList ++ rowOf t := by simp [rowOf]
    rw [e]
    cases i with
    | zero =>
      simp at hx; subst hx
      rw [Nat.zero_mul, Nat.zero_add, List.getElem?_append_left (by simp; omega)]
      simp
    | succ i =>
      simp at hx
      rw [List.getElem?_append_right (by simp; omega)]
      have e2 : (i + 1) * 20 + r - y.cs.toList.length = i * 20 + r := by simp [hy]; omega
      rw [e2]
      exact ih (fun z hz => h z (by simp [hz])) i r x hx hr
theorem rowOf_set : ∀ (st : List One) (_ : ∀ x, x ∈ st → x.cs.size = 20) (i : Nat) (x y : One), st[i]? = some x → y.cs.size = 20 → ∀ j, (rowOf (st.set i y))[j]? = if i * 20 ≤ j ∧ j < i * 20 + 20 then y.cs[j - i * 20]? else (rowOf st)[j]? := by
  intro st
  induction st with
  | nil => intro _ i x y h; simp at h
  | cons z t ih =>
    intro h i x y hx hy j
    have hz := h z (by simp)
    have e : rowOf (z :: t) = z.cs.toList ++ rowOf t := by simp [rowOf]
    cases i with
    | zero =>
      have e1 : rowOf ((z :: t).set 0 y) = y.cs.toList ++ rowOf t := by simp [rowOf]
      rw [e1, e]
      by_cases hj : j < 20
      · rw [if_pos (by omega), List.getElem?_append_left (by simp; omega)]
        simp
      · rw [if_neg (by omega), List.getElem?_append_right (by simp; omega), List.getElem?_append_right (by simp; omega)]
        simp [hy, hz]
    | succ i =>
      simp at hx
      have e1 : rowOf ((z :: t).set (i + 1) y) = z.cs.toList ++ rowOf (t.set i y) := by simp [rowOf]
      rw [e1, e]
      by_cases hj : j < 20
      · rw [if_neg (by omega), List.getElem?_append_left (by simp; omega), List.getElem?_append_left (by simp; omega)]
      · rw [List.getElem?_append_right (by simp; omega), List.getElem?_append_right (by simp; omega)]
        rw [ih (fun u hu => h u (by simp [hu])) i x y hx hy]
        have e2 : z.cs.toList.length = 20 := by simp [hz]
        rw [e2]
        by_cases hc : (i + 1) * 20 ≤ j ∧ j < (i + 1) * 20 + 20
        · rw [if_pos hc, if_pos (by omega), show j - 20 - i * 20 = j - (i + 1) * 20 by omega]
        · rw [if_neg hc, if_neg (by omega)]
theorem get_set {α : Type} {l : List α} {i j : Nat} {x y : α} (h : (l.set i y)[j]? = some x) : (j = i ∧ x = y) ∨ (j ≠ i ∧ l[j]? = some x) := by
  rw [List.getElem?_set] at h
  by_cases e : i = j
  · subst e
    rw [if_pos rfl] at h
    split at h
    · cases h; exact Or.inl ⟨rfl, rfl⟩
    · cases h
  · rw [if_neg e] at h
    exact Or.inr ⟨fun e' => e e'.symm, h⟩

structure Each (w0 w : World) (n ga gw : Nat) (x : One) : Prop where
  sin : Sin w0 x.b x.M x.A n w
  ref : RefS w x.R (.agg x.cs) x.G
  new : ∀ k, k ∈ x.F → k ≠ ga ∧ k ≠ gw
  far : ∀ k, k ∈ x.G → w0.heap.size ≤ k ∧ k < w.heap.size ∧ k ≠ ga ∧ k ≠ gw
/-- The two rows, and all that stands in them. -/
structure Many (w0 w : World) (n : Nat) (st : List One) (ga ca gw cw : Nat) : Prop where
  turn : Frm.Turn [] w0 w
  few : st.length ≤ 4
  pos : 0 < st.length
  all : w.ownsRow 0 25 1 (.slice (some ⟨ga, 0, none⟩) st.length ca) st.length (st.map One.ptr)
  want : w.ownsRow 0 54 20 (.slice (some ⟨gw, 0, none⟩) st.length cw) st.length (rowOf st)
  newA : w0.heap.size ≤ ga
  newW : w0.heap.size ≤ gw
  ne : ga ≠ gw
  each : ∀ (i : Nat) (x : One), st[i]? = some x → Each w0 w n ga gw x
  apart : ∀ (i j : Nat) (x y : One), i ≠ j → st[i]? = some x → st[j]? = some y → ∀ k, k ∈ x.F → k ∉ y.F
  side : ∀ (i j : Nat) (x y : One), st[i]? = some x → st[j]? = some y → ∀ k, k ∈ y.G → k ∉ x.F
theorem ref_size {w : World} {A : Ar} {CS : Array Value} {G : List Nat} (h : RefS w A (.agg CS) G) : CS.size = 20 ∧ CS.all (·.oneCell') = true := by
  obtain ⟨C, e, h1, h2⟩ := h.row
  cases e
  exact ⟨h1, h2⟩
theorem Each.size {w0 w : World} {n ga gw : Nat} {x : One} (h : Each w0 w n ga gw x) : x.cs.size = 20 := (ref_size h.ref).1
theorem Many.sizes {w0 w : World} {n : Nat} {st : List One} {ga ca gw cw : Nat} (h : Many w0 w n st ga ca gw cw) : ∀ x, x ∈ st → x.cs.size = 20 := fun x hx => by
  obtain ⟨i, hi⟩ := List.getElem?_of_mem hx
  exact (h.each i x hi).size
theorem Each.turn {w0 w w' : World} {n ga gw : Nat} {x : One} {F : List Nat} (h : Each w0 w n ga gw x) (ht : Frm.Turn F w w') (h0 : ∀ k, k ∈ F → w0.heap.size ≤ k) (h1 : ∀ k, k ∈ x.F → k ∉ F) (h2 : ∀ k, k ∈ x.G → k ∉ F) : Each w0 w' n ga gw x :=
  ⟨h.sin.apart ht h1 h0, h.ref.turn ht h2, h.new, fun k hk => by have := h.far k hk; have := ht.size; omega⟩
theorem Each.more {w0 w : World} {n m ga gw : Nat} {x : One} (h : Each w0 w n ga gw x) (hm : n ≤ m) : Each w0 w m ga gw x := ⟨h.sin.more hm, h.ref, h.new, h.far⟩
theorem Many.lt {w0 w : World} {n : Nat} {st : List One} {ga ca gw cw : Nat} (h : Many w0 w n st ga ca gw cw) : ga < w.heap.size ∧ gw < w.heap.size :=
  ⟨(World.ownsRow.lt h.all ga rfl).2, (World.ownsRow.lt h.want gw rfl).2⟩
/-- Other blocks turn. -/
theorem Many.aside {w0 w w' : World} {n : Nat} {st : List One} {ga ca gw cw : Nat} {F : List Nat} (h : Many w0 w n st ga ca gw cw) (ht : Frm.Turn F w w') (h0 : ∀ k, k ∈ F → w0.heap.size ≤ k) (hg : ga ∉ F) (hw : gw ∉ F) (hF : ∀ (i : Nat) (x : One), st[i]? = some x → ∀ k, k ∈ F → k ∉ x.F ∧ k ∉ x.G) : Many w0 w' n st ga ca gw cw :=
  ⟨h.turn.trans ht (fun k hk => .inr (h0 k hk)), h.few, h.pos, Frm.owns_turn h.all ht (fun k hk => by simp [Value.ownBlock] at hk; subst hk; exact hg), Frm.owns_turn h.want ht (fun k hk => by simp [Value.ownBlock] at hk; subst hk; exact hw), h.newA, h.newW, h.ne,
    fun i x hx => (h.each i x hx).turn ht h0 (fun k hk hk' => (hF i x hx k hk').1 hk) (fun k hk hk' => (hF i x hx k hk').2 hk), h.apart, h.side⟩
/-- Nothing of it turns. -/
theorem Many.step {w0 w w' : World} {n : Nat} {st : List One} {ga ca gw cw : Nat} (h : Many w0 w n st ga ca gw cw) (ht : Frm.Turn [] w w') : Many w0 w' n st ga ca gw cw :=
  h.aside ht (by simp) (by simp) (by simp) (by simp)
/-- One arena takes a step. -/
theorem Many.arena {w0 w w' : World} {n m : Nat} {st : List One} {ga ca gw cw i : Nat} {x : One} {A' : Ar} (h : Many w0 w n st ga ca gw cw) (hx : st[i]? = some x) (hnm : n ≤ m) (ha : After w0 x.b x.M A' m w w') :
    ∃ M', Many w0 w' m (st.set i { x with M := M', A := A' }) ga ca gw cw ∧ Frm.Turn x.F w w' ∧ ∀ k, k ∈ M'.foot x.b → k ∈ x.F ∨ w.heap.size ≤ k := by
  obtain ⟨M', hs, ht, hf⟩ := ha
  refine ⟨M', ?_, ht, hf⟩
  have hi : i < st.length := (List.getElem?_eq_some_iff.1 hx).1
  have hE := h.each i x hx
  obtain ⟨l1, l2⟩ := h.lt
  have hsz := ht.size
  have h0 : ∀ k, k ∈ x.M.foot x.b → w0.heap.size ≤ k := hE.sin.new
  have e1 : (st.set i { x with M := M', A := A' }).map One.ptr = st.map One.ptr := by
    rw [List.map_set]
    apply List.ext_getElem?
    intro j
    rw [List.getElem?_set]
    split
    · rename_i e; subst e
      simp [hi, One.ptr]
      have := (List.getElem?_eq_some_iff.1 hx).2
      rw [this]
    · rfl
  have e2 : rowOf (st.set i { x with M := M', A := A' }) = rowOf st := by
    apply List.ext_getElem?
    intro j
    rw [rowOf_set st h.sizes i x { x with M := M', A := A' } hx hE.size]
    split
    · rename_i hc
      rw [← rowOf_at st h.sizes i (j - i * 20) x hx (by omega), show i * 20 + (j - i * 20) = j by omega]
    · rfl
  refine ⟨h.turn.trans ht (fun k hk => .inr (h0 k hk)), by simpa using h.few, by simpa using h.pos, ?_, ?_, h.newA, h.newW, h.ne, fun j y hy => ?_, fun j k y z hjk hy hz q hq => ?_, fun j k y z hy hz q hq => ?_⟩
  · rw [e1, List.length_set]; exact Frm.owns_turn h.all ht (fun k hk => by simp [Value.ownBlock] at hk; subst hk; exact fun hc => (hE.new _ hc).1 rfl)
  · rw [e2, List.length_set]; exact Frm.owns_turn h.want ht (fun k hk => by simp [Value.ownBlock] at hk; subst hk; exact fun hc => (hE.new _ hc).2 rfl)
  · rcases get_set hy with ⟨_, rfl⟩ | ⟨hne, hy⟩
    · refine ⟨hs, hE.ref.turn ht (fun k hk => h.side i i x x hx hx k hk), fun k hk => ?_, fun k hk => by have := hE.far k hk; omega⟩
      rcases hf k hk with h1 | h1
      · exact hE.new k h1
      · omega
    · exact ((h.each j y hy).turn ht h0 (fun k hk => h.apart j i y x hne hy hx k hk) (fun k hk => h.side i j x y hx hy k hk)).more hnm
  · rcases get_set hy with ⟨q1, q2⟩ | ⟨hne, hy1⟩
    · rcases get_set hz with ⟨q3, q4⟩ | ⟨hnz, hz1⟩
      · exact absurd (q1.trans q3.symm) hjk
      · subst q1 q2
        rcases hf q hq with h1 | h1
        · exact h.apart j k x z hjk hx hz1 q h1
        · intro hc
          have := (h.each k z hz1).sin.lt hc
          omega
    · rcases get_set hz with ⟨q3, q4⟩ | ⟨hnz, hz1⟩
      · subst q3 q4
        intro hc
        rcases hf q hc with h1 | h1
        · exact h.apart j k y x hjk hy1 hx q hq h1
        · have := (h.each j y hy1).sin.lt hq
          omega
      · exact h.apart j k y z hjk hy1 hz1 q hq
  · have hz' : ∃ z', st[k]? = some z' ∧ z'.G = z.G := by
      rcases get_set hz with ⟨rfl, rfl⟩ | ⟨_, hz⟩
      · exact ⟨x, hx, rfl⟩
      · exact ⟨z, hz, rfl⟩
    obtain ⟨z', hz', hv⟩ := hz'
    rw [← hv] at hq
    have hlt := (h.each k z' hz').far q hq
    rcases get_set hy with ⟨rfl, rfl⟩ | ⟨hne, hy⟩
    · intro hc
      rcases hf q hc with h1 | h1
      · exact h.side j k x z' hx hz' q hq h1
      · omega
    · exact h.side j k y z' hy hz' q hq
/-- A row, some cells of which are written anew. -/
theorem owns_setCells {base g n c : Nat} {e : TypeId} {size : Nat} : ∀ (vs : List Value) (o : Nat) (xs ys : List Value) (w : World), w.ownsRow base e size (.slice (some ⟨g, 0, none⟩) n c) n xs → o + vs.length ≤ xs.length →
    (∀ j, ys[j]? = if o ≤ j ∧ j < o + vs.length then vs[j - o]? else xs[j]?) → (w.setCells g o vs).ownsRow base e size (.slice (some ⟨g, 0, none⟩) n c) n ys := by
  intro vs
  induction vs with
  | nil =>
    intro o xs ys w h hl hy
    have : ys = xs := by
      apply List.ext_getElem?
      intro j
      rw [hy, if_neg (by simp only [List.length_nil]; omega)]
    rw [this]
    simpa [World.setCells] using h
  | cons v t ih =>
    intro o xs ys w h hl hy
    have s1 := (World.ownsRow.stored h o v).1
    have := ih (o + 1) (xs.set o v) ys (w.setCell ⟨g, o, none⟩ v) s1 (by simp at hl ⊢; omega) (fun j => by
      rw [hy]
      simp only [List.length_cons] at hl ⊢
      by_cases hj : j = o
      · subst hj
        rw [if_pos (by omega), if_neg (by omega), List.getElem?_set, if_pos rfl, if_pos (by omega)]
        simp
      · by_cases hc : o ≤ j ∧ j < o + (t.length + 1)
        · rw [if_pos hc, if_pos (by omega), show j - o = (j - (o + 1)) + 1 by omega]
          simp
        · rw [if_neg hc, if_neg (by omega), List.getElem?_set, if_neg (by omega)])
    simpa [World.setCells] using this
theorem there_of {w : World} {base g n c : Nat} {e : TypeId} {size : Nat} {xs : List Value} (h : w.ownsRow base e size (.slice (some ⟨g, 0, none⟩) n c) n xs) (o k : Nat) (hk : o + k ≤ xs.length) : w.there g o k := fun j hj => by
  refine ⟨?_, World.ownsRow.frozenAt h (o + j)⟩
  have hx : xs[o + j]? = some xs[o + j] := List.getElem?_eq_getElem (by omega)
  have := World.ownsRow.cells h rfl (o + j) _ hx
  rw [Addr.add_mid, Nat.zero_add] at this
  rw [this]; rfl
theorem setCells_turn {F : List Nat} {g : Nat} (hg : g ∈ F) : ∀ (vs : List Value) (o : Nat) (w0 w : World), Frm.Turn F w0 w → Frm.Turn F w0 (w.setCells g o vs) := by
  intro vs
  induction vs with
  | nil => intro o w0 w h; exact h
  | cons v t ih => intro o w0 w h; exact ih (o + 1) w0 _ (h.setCell (p := ⟨g, o, none⟩) (.inl hg) v)
theorem Many.ptr_at {w0 w : World} {n : Nat} {st : List One} {ga ca gw cw i : Nat} {x : One} (h : Many w0 w n st ga ca gw cw) (hx : st[i]? = some x) : w.cell? ⟨ga, i, none⟩ = some (.pointer (some ⟨x.b, 0, none⟩)) := by
  have := World.ownsRow.cells h.all rfl i x.ptr (by rw [List.getElem?_map, hx]; rfl)
  rwa [Addr.add_mid, Nat.zero_add] at this
theorem Many.range_at {w0 w : World} {n : Nat} {st : List One} {ga ca gw cw i : Nat} {x : One} (h : Many w0 w n st ga ca gw cw) (hx : st[i]? = some x) : w.rangeAt gw (i * 20) x.cs.toList := fun j u hu => by
  have hz := (h.each i x hx).size
  have hj : j < 20 := by have := (List.getElem?_eq_some_iff.1 hu).1; simp at this; omega
  have := World.ownsRow.cells h.want rfl (i * 20 + j) u (by rw [rowOf_at st h.sizes i j x hx hj]; simpa using hu)
  rwa [Addr.add_mid, Nat.zero_add] at this
theorem Many.there_at {w0 w : World} {n : Nat} {st : List One} {ga ca gw cw i : Nat} (h : Many w0 w n st ga ca gw cw) (hi : i < st.length) : w.there gw (i * 20) 20 :=
  there_of h.want (i * 20) 20 (by rw [length_rowOf st h.sizes]; omega)
/-- The document's answer at one place is written anew. -/
theorem Many.store {w0 w : World} {n : Nat} {st : List One} {ga ca gw cw i : Nat} {x : One} {R' : Ar} {cs' : Array Value} {G' : List Nat} (h : Many w0 w n st ga ca gw cw) (hx : st[i]? = some x)
    (hr : RefS w R' (.agg cs') G') (hG : ∀ k, k ∈ G' → w0.heap.size ≤ k ∧ k < w.heap.size ∧ k ≠ ga ∧ k ≠ gw ∧ ∀ (j : Nat) (y : One), st[j]? = some y → k ∉ y.F) :
    Many w0 (w.setCells gw (i * 20) cs'.toList) n (st.set i { x with R := R', cs := cs', G := G' }) ga ca gw cw ∧ Frm.Turn [gw] w (w.setCells gw (i * 20) cs'.toList) := by
  have hi : i < st.length := (List.getElem?_eq_some_iff.1 hx).1
  have hE := h.each i x hx
  have hz' := (ref_size hr).1
  have hT : Frm.Turn [gw] w (w.setCells gw (i * 20) cs'.toList) := setCells_turn (by simp) _ _ _ _ (Frm.Turn.refl _ _)
  refine ⟨?_, hT⟩
  have hsz := hT.size
  have h0 : ∀ k, k ∈ [gw] → w0.heap.size ≤ k := fun k hk => by simp at hk; subst hk; exact h.newW
  have e1 : (st.set i { x with R := R', cs := cs', G := G' }).map One.ptr = st.map One.ptr := by
    rw [List.map_set]
    apply List.ext_getElem?
    intro j
    rw [List.getElem?_set]
    split
    · rename_i e; subst e
      simp [hi, One.ptr]
      have := (List.getElem?_eq_some_iff.1 hx).2
      rw [this]
    · rfl
  refine ⟨h.turn.trans hT (fun k hk => .inr (h0 k hk)), by simpa using h.few, by simpa using h.pos, ?_, ?_, h.newA, h.newW, h.ne, fun j y hy => ?_, fun j k y z hjk hy hz q hq => ?_, fun j k y z hy hz q hq => ?_⟩
  · rw [e1, List.length_set]; exact Frm.owns_turn h.all hT (fun k hk => by simp [Value.ownBlock] at hk; subst hk; simp; exact h.ne)
  · rw [List.length_set]
    refine owns_setCells cs'.toList (i * 20) (rowOf st) _ w h.want (by rw [length_rowOf st h.sizes]; simp; omega) (fun j => ?_)
    rw [rowOf_set st h.sizes i x { x with R := R', cs := cs', G := G' } hx hz']
    simp [hz']
  · rcases get_set hy with ⟨_, rfl⟩ | ⟨hne, hy⟩
    · exact ⟨hE.sin.apart hT (fun k hk hk' => by simp at hk'; exact (hE.new k hk).2 hk') h0, hr.turn hT (fun k hk hk' => by simp at hk'; exact (hG k hk).2.2.2.1 hk'), hE.new, fun k hk => by have := hG k hk; omega⟩
    · have hE' := h.each j y hy
      exact hE'.turn hT h0 (fun k hk hk' => by simp at hk'; exact (hE'.new k hk).2 hk') (fun k hk hk' => by simp at hk'; exact (hE'.far k hk).2.2.2 hk')
  · have back : ∀ (a : Nat) (v : One), (st.set i { x with R := R', cs := cs', G := G' })[a]? = some v → ∃ v', st[a]? = some v' ∧ v'.F = v.F := fun a v hv => by
      rcases get_set hv with ⟨rfl, rfl⟩ | ⟨_, hv⟩
      · exact ⟨x, hx, rfl⟩
      · exact ⟨v, hv, rfl⟩
    obtain ⟨y', hy', e3⟩ := back j y hy
    obtain ⟨z', hz2, e4⟩ := back k z hz
    rw [← e4]
    exact h.apart j k y' z' hjk hy' hz2 q (by rw [e3]; exact hq)
  · have hy' : ∃ y', st[j]? = some y' ∧ y'.F = y.F := by
      rcases get_set hy with ⟨rfl, rfl⟩ | ⟨_, hy⟩
      · exact ⟨x, hx, rfl⟩
      · exact ⟨y, hy, rfl⟩
    obtain ⟨y', hy', e3⟩ := hy'
    rw [← e3]
    rcases get_set hz with ⟨rfl, rfl⟩ | ⟨_, hz⟩
    · exact (hG q hq).2.2.2.2 j y' hy'
    · exact h.side j k y' z hy' hz q hq
/-- One more stands behind the others: both rows have grown. -/
theorem Many.grow {w0 w w2 : World} {n m : Nat} {st : List One} {ga ca gw cw : Nat} {y : One} {va vw : Value} (h : Many w0 w n st ga ca gw cw) (hfew : st.length < 4) (hnm : n ≤ m)
    (ht : Frm.Turn [ga, gw] w w2) (ha : w2.ownsRow 0 25 1 va (st.length + 1) (st.map One.ptr ++ [y.ptr])) (hw : w2.ownsRow 0 54 20 vw (st.length + 1) (rowOf st ++ y.cs.toList))
    (hva : ∀ k, va.ownBlock = some k → (k = ga ∨ w.heap.size ≤ k)) (hvw : ∀ k, vw.ownBlock = some k → (k = gw ∨ w.heap.size ≤ k)) (hne : ∀ k, va.ownBlock = some k → vw.ownBlock ≠ some k)
    (hs : Sin w0 y.b y.M y.A m w2) (hr : RefS w2 y.R (.agg y.cs) y.G) (hn : ∀ k, k ∈ y.F → w.heap.size ≤ k ∧ va.ownBlock ≠ some k ∧ vw.ownBlock ≠ some k)
    (hG : ∀ k, k ∈ y.G → w0.heap.size ≤ k ∧ k < w.heap.size ∧ k ≠ ga ∧ k ≠ gw ∧ ∀ (j : Nat) (z : One), st[j]? = some z → k ∉ z.F) :
    ∃ ga' ca' gw' cw', va = .slice (some ⟨ga', 0, none⟩) (st.length + 1) ca' ∧ vw = .slice (some ⟨gw', 0, none⟩) (st.length + 1) cw' ∧ Many w0 w2 m (st ++ [y]) ga' ca' gw' cw' := by
  obtain ⟨ga', ca', ea⟩ : ∃ ga' ca', va = .slice (some ⟨ga', 0, none⟩) (st.length + 1) ca' := by
    rcases ha.2 with ⟨_, h0⟩ | ⟨g, c, cur, e, _⟩
    · omega
    · exact ⟨g, c, e⟩
  obtain ⟨gw', cw', ew⟩ : ∃ gw' cw', vw = .slice (some ⟨gw', 0, none⟩) (st.length + 1) cw' := by
    rcases hw.2 with ⟨_, h0⟩ | ⟨g, c, cur, e, _⟩
    · omega
    · exact ⟨g, c, e⟩
  subst ea ew
  have ba : ga' = ga ∨ w.heap.size ≤ ga' := hva ga' rfl
  have bw : gw' = gw ∨ w.heap.size ≤ gw' := hvw gw' rfl
  have bne : ga' ≠ gw' := fun e => hne ga' rfl (by rw [e]; rfl)
  have hsz := h.turn.size
  have hsz2 := ht.size
  obtain ⟨l1, l2⟩ := h.lt
  have hn1 := h.newA
  have hn2 := h.newW
  have h0 : ∀ k, k ∈ [ga, gw] → w0.heap.size ≤ k := fun k hk => by simp at hk; omega
  have hlen : (st ++ [y]).length = st.length + 1 := by simp
  have get : ∀ (i : Nat) (x : One), (st ++ [y])[i]? = some x → st[i]? = some x ∨ (i = st.length ∧ x = y) := fun i x hx => by
    rw [List.getElem?_append] at hx
    split at hx
    · exact Or.inl hx
    · rename_i hge
      right
      have hi : i - st.length = 0 := by
        rcases Nat.eq_zero_or_pos (i - st.length) with e | e
        · exact e
        · rw [List.getElem?_eq_none (by simp; omega)] at hx; cases hx
      rw [hi] at hx
      simp at hx
      exact ⟨by omega, hx.symm⟩
  refine ⟨ga', ca', gw', cw', rfl, rfl, h.turn.trans ht (fun k hk => .inr (h0 k hk)), by omega, by omega, ?_, ?_, by omega, by omega, bne, fun i x hx => ?_, fun i j x z hij hx hz q hq => ?_, fun i j x z hx hz q hq => ?_⟩
  · rw [hlen, List.map_append]; exact ha
  · rw [hlen]
    have : rowOf (st ++ [y]) = rowOf st ++ y.cs.toList := by simp [rowOf]
    rw [this]; exact hw
  · rcases get i x hx with hx | ⟨_, rfl⟩
    · have hE := h.each i x hx
      have hE2 := (hE.turn ht h0 (fun k hk => by have := hE.new k hk; simp; exact this) (fun k hk => by have := hE.far k hk; simp; exact ⟨this.2.2.1, this.2.2.2⟩)).more hnm
      refine ⟨hE2.sin, hE2.ref, fun k hk => ?_, fun k hk => ?_⟩
      · have h1 := hE.new k hk
        have h2 := hE.sin.lt hk
        omega
      · have h1 := hE.far k hk
        omega
    · refine ⟨hs, hr, fun k hk => ?_, fun k hk => ?_⟩
      · obtain ⟨h1, h2, h3⟩ := hn k hk
        exact ⟨fun e => h2 (by rw [e]; rfl), fun e => h3 (by rw [e]; rfl)⟩
      · have h1 := hG k hk
        omega
  · rcases get i x hx with hx1 | ⟨e1, e2⟩
    · rcases get j z hz with hz1 | ⟨e3, e4⟩
      · exact h.apart i j x z hij hx1 hz1 q hq
      · subst e4
        intro hc
        have h1 := (hn q hc).1
        have h2 := (h.each i x hx1).sin.lt hq
        omega
    · rcases get j z hz with hz1 | ⟨e3, e4⟩
      · subst e2
        intro hc
        have h1 := (hn q hq).1
        have h2 := (h.each j z hz1).sin.lt hc
        omega
      · exact absurd (e1.trans e3.symm) hij
  · have hq2 : q < w.heap.size ∧ ∀ (j : Nat) (z : One), st[j]? = some z → q ∉ z.F := by
      rcases get j z hz with hz1 | ⟨e3, e4⟩
      · exact ⟨((h.each j z hz1).far q hq).2.1, fun j' z' hz' => h.side j' j z' z hz' hz1 q hq⟩
      · subst e4; exact ⟨(hG q hq).2.1, (hG q hq).2.2.2.2⟩
    rcases get i x hx with hx1 | ⟨e1, e2⟩
    · exact hq2.2 i x hx1
    · subst e2
      intro hc
      have h1 := (hn q hc).1
      omega
end Arn
end Go.Proofs.Ytgjgoflkbcmgnaa

set_option linter.unusedVariables false
set_option linter.unusedSimpArgs false
namespace Go.Proofs.Ytgjgoflkbcmgnaa
namespace Arn
open Go.RowKit Hp Go.Maps

structure Rnd (w0 w : World) (n : Nat) (st : List One) (ga ca gw cw i : Nat) (x : One) (Bo : Nat) (y : OpV) (bw : Nat) (R : Ar) (CS : Array Value) (G : List Nat) : Prop where
  many : Many w0 w n st ga ca gw cw
  at_ : st[i]? = some x
  op : BoxOp w Bo y
  own : w.heap[bw]? = some (.cells CS 54 (0, 0))
  ref : RefS w R (.agg CS) G
  new : w0.heap.size ≤ Bo ∧ w0.heap.size ≤ bw
  dif : Bo ≠ ga ∧ Bo ≠ gw ∧ bw ≠ ga ∧ bw ≠ gw ∧ Bo ≠ bw
  off : ∀ (j : Nat) (z : One), st[j]? = some z → (Bo ∉ z.F ∧ bw ∉ z.F) ∧ Bo ∉ z.G ∧ bw ∉ z.G
  offG : Bo ∉ G ∧ bw ∉ G
  far : ∀ k, k ∈ G → w0.heap.size ≤ k ∧ k < w.heap.size ∧ k ≠ ga ∧ k ≠ gw ∧ ∀ (j : Nat) (z : One), st[j]? = some z → k ∉ z.F
variable {w0 w w' : World} {n m : Nat} {st : List One} {ga ca gw cw i : Nat} {x : One} {Bo : Nat} {y : OpV} {bw : Nat} {R R' : Ar} {CS CS' : Array Value} {G G' : List Nat}
theorem Rnd.lt (h : Rnd w0 w n st ga ca gw cw i x Bo y bw R CS G) : Bo < w.heap.size ∧ bw < w.heap.size :=
  ⟨(Array.getElem?_eq_some_iff.1 h.op).1, (Array.getElem?_eq_some_iff.1 h.own).1⟩
theorem Rnd.step (h : Rnd w0 w n st ga ca gw cw i x Bo y bw R CS G) (ht : Frm.Turn [] w w') : Rnd w0 w' n st ga ca gw cw i x Bo y bw R CS G :=
  ⟨h.many.step ht, h.at_, h.op.turn ht (by simp), ht.keep h.own (by simp), h.ref.turn ht (by simp), h.new, h.dif, h.off, h.offG, fun k hk => by have := h.far k hk; have := ht.size; exact ⟨by omega, by omega, by omega, by omega, (h.far k hk).2.2.2.2⟩⟩
theorem Many.more (h : Many w0 w n st ga ca gw cw) (hm : n ≤ m) : Many w0 w m st ga ca gw cw :=
  ⟨h.turn, h.few, h.pos, h.all, h.want, h.newA, h.newW, h.ne, fun i x hx => (h.each i x hx).more hm, h.apart, h.side⟩
theorem Rnd.more (h : Rnd w0 w n st ga ca gw cw i x Bo y bw R CS G) (hm : n ≤ m) : Rnd w0 w m st ga ca gw cw i x Bo y bw R CS G :=
  ⟨h.many.more hm, h.at_, h.op, h.own, h.ref, h.new, h.dif, h.off, h.offG, h.far⟩
/-- The arena takes a step. -/
theorem Rnd.acts (h : Rnd w0 w n st ga ca gw cw i x Bo y bw R CS G) {A' : Ar} (hnm : n ≤ m) (ha : After w0 x.b x.M A' m w w') :
    ∃ M', Rnd w0 w' m (st.set i { x with M := M', A := A' }) ga ca gw cw i { x with M := M', A := A' } Bo y bw R CS G := by
  obtain ⟨M', hM, hT, hf⟩ := h.many.arena h.at_ hnm ha
  have hi : i < st.length := (List.getElem?_eq_some_iff.1 h.at_).1
  obtain ⟨l1, l2⟩ := h.lt
  have hsz := hT.size
  have ho := h.off i x h.at_
  have back : ∀ (j : Nat) (z : One), (st.set i { x with M := M', A := A' })[j]? = some z → (∀ k, k ∈ z.F → (∃ (j' : Nat) (z' : One), st[j']? = some z' ∧ k ∈ z'.F) ∨ w.heap.size ≤ k) ∧ ∃ (j' : Nat) (z' : One), st[j']? = some z' ∧ z'.G = z.G := fun j z hz => by
    rcases get_set hz with ⟨rfl, rfl⟩ | ⟨_, hz⟩
    · exact ⟨fun k hk => (hf k hk).imp (fun h1 => ⟨j, x, h.at_, h1⟩) id, j, x, h.at_, rfl⟩
    · exact ⟨fun k hk => .inl ⟨j, z, hz, hk⟩, j, z, hz, rfl⟩
  refine ⟨M', hM, by rw [List.getElem?_set, if_pos rfl, if_pos hi], h.op.turn hT ho.1.1, hT.keep h.own ho.1.2, h.ref.turn hT (fun k hk => (h.far k hk).2.2.2.2 i x h.at_), h.new, h.dif, fun j z hz => ?_, h.offG, fun k hk => ?_⟩
  · obtain ⟨b1, j', z', b2, b3⟩ := back j z hz
    refine ⟨⟨fun hk => ?_, fun hk => ?_⟩, by rw [← b3]; exact (h.off j' z' b2).2⟩
    · rcases b1 _ hk with ⟨j2, z2, e1, e2⟩ | e
      · exact (h.off j2 z2 e1).1.1 e2
      · omega
    · rcases b1 _ hk with ⟨j2, z2, e1, e2⟩ | e
      · exact (h.off j2 z2 e1).1.2 e2
      · omega
  · have hF := h.far k hk
    refine ⟨hF.1, by omega, hF.2.2.1, hF.2.2.2.1, fun j z hz hk' => ?_⟩
    rcases (back j z hz).1 k hk' with ⟨j2, z2, e1, e2⟩ | e
    · exact hF.2.2.2.2 j2 z2 e1 e2
    · omega
theorem Rnd.arena (h : Rnd w0 w n st ga ca gw cw i x Bo y bw R CS G) {f : Nat} {args : Array Value} {ret : Value} {A' : Ar} (hnm : n ≤ m) (hc : Calls Try.prog f args w fun e w' => e = .returned ret ∧ After w0 x.b x.M A' m w w') :
    Calls Try.prog f args w fun e w' => e = .returned ret ∧ ∃ M', Rnd w0 w' m (st.set i { x with M := M', A := A' }) ga ca gw cw i { x with M := M', A := A' } Bo y bw R CS G :=
  hc.mono fun e w' ⟨he, ha⟩ => ⟨he, h.acts hnm ha⟩
/-- The document's next answer, not yet laid down. -/
structure Nxt (w0 w : World) (n : Nat) (st : List One) (ga ca gw cw i : Nat) (x : One) (Bo : Nat) (y : OpV) (bw : Nat) (R : Ar) (CS : Array Value) (G : List Nat) (R' : Ar) (CS' : Array Value) (G' : List Nat) : Prop where
  rnd : Rnd w0 w n st ga ca gw cw i x Bo y bw R CS G
  ref : RefS w R' (.agg CS') G'
  offG : Bo ∉ G' ∧ bw ∉ G'
  far : ∀ k, k ∈ G' → w0.heap.size ≤ k ∧ k < w.heap.size ∧ k ≠ ga ∧ k ≠ gw ∧ ∀ (j : Nat) (z : One), st[j]? = some z → k ∉ z.F
theorem Rnd.refc (h : Rnd w0 w n st ga ca gw cw i x Bo y bw R CS G) {f : Nat} {args : Array Value} {mk : Value → Value} (hc : Calls Try.prog f args w fun e w' => ∃ u' G', e = .returned (mk u') ∧ RefS w' R' u' G' ∧ Frm.Turn [] w w' ∧ ∀ k, k ∈ G' → k ∈ G ∨ (w.heap.size ≤ k ∧ k < w'.heap.size)) :
    Calls Try.prog f args w fun e w' => ∃ CS' G', e = .returned (mk (.agg CS')) ∧ CS'.size = 20 ∧ CS'.all (·.oneCell') = true ∧ Nxt w0 w' n st ga ca gw cw i x Bo y bw R CS G R' CS' G' := by
  refine hc.mono ?_
  rintro e w' ⟨u', G', rfl, hr, hT, hG⟩
  obtain ⟨CS', rfl, h1, h2⟩ := hr.row
  have hsz := hT.size
  obtain ⟨l1, l2⟩ := h.lt
  obtain ⟨l3, l4⟩ := h.many.lt
  have hs0 := h.many.turn.size
  refine ⟨CS', G', rfl, h1, h2, h.step hT, hr, ⟨fun hk => ?_, fun hk => ?_⟩, fun k hk => ?_⟩
  · rcases hG _ hk with e | e
    · exact h.offG.1 e
    · omega
  · rcases hG _ hk with e | e
    · exact h.offG.2 e
    · omega
  · rcases hG _ hk with e | e
    · have := h.far k e; exact ⟨by omega, by omega, by omega, by omega, this.2.2.2.2⟩
    · exact ⟨by omega, by omega, by omega, by omega, fun j z hz hk' => by have := (h.many.each j z hz).sin.lt hk'; omega⟩
/-- It is laid down: in a box of its own first, then in the round's. -/
theorem Nxt.put (h : Nxt w0 w n st ga ca gw cw i x Bo y bw R CS G R' CS' G') (Z : Array Value) : Rnd w0 (((w.alloc (.cells Z 54)).setRow w.heap.size CS').setRow bw CS') n st ga ca gw cw i x Bo y bw R' CS' G' ∧
    ((w.alloc (.cells Z 54)).setRow w.heap.size CS').heap[w.heap.size]? = some (.cells CS' 54 (0, 0)) ∧ ((w.alloc (.cells Z 54)).setRow w.heap.size CS').heap[bw]? = some (.cells CS 54 (0, 0)) ∧ CS.size = CS'.size := by
  obtain ⟨l1, l2⟩ := h.rnd.lt
  have T1 : Frm.Turn [] w ((w.alloc (.cells Z 54)).setRow w.heap.size CS') := setRow_turn ((Frm.Turn.refl [] w).alloc _) (.inr (Nat.le_refl _)) _
  have r1 := h.rnd.step T1
  have T2 : Frm.Turn [bw] ((w.alloc (.cells Z 54)).setRow w.heap.size CS') (((w.alloc (.cells Z 54)).setRow w.heap.size CS').setRow bw CS') := setRow_turn (Frm.Turn.refl _ _) (.inl (by simp)) _
  have hsz := (T1.size)
  have hsz2 := T2.size
  have hd := h.rnd.dif
  have h0 : ∀ k, k ∈ [bw] → w0.heap.size ≤ k := fun k hk => by simp at hk; subst hk; exact h.rnd.new.2
  refine ⟨⟨r1.many.aside T2 h0 (by simp; omega) (by simp; omega) (fun j z hz k hk => by simp at hk; subst hk; exact ⟨(h.rnd.off j z hz).1.2, (h.rnd.off j z hz).2.2⟩), h.rnd.at_, r1.op.turn T2 (by simp; omega), setRow_heap _ _ _ _ _ _ r1.own, (h.ref.turn T1 (by simp)).turn T2 (fun k hk hk' => by simp at hk'; subst hk'; exact h.offG.2 hk), h.rnd.new, h.rnd.dif, h.rnd.off, h.offG, fun k hk => ?_⟩, setRow_heap _ _ _ _ _ _ (World.alloc_heap_new w _), r1.own, ?_⟩
  · have := h.far k hk
    exact ⟨by omega, by omega, by omega, by omega, this.2.2.2.2⟩
  · rw [(ref_size h.rnd.ref).1, (ref_size h.ref).1]
end Arn
end Go.Proofs.Ytgjgoflkbcmgnaa
