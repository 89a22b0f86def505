/- Copies of an arena's blocks; its Clone. -/
import Derived.Test.YthnmnpjjpckeeaaArenaFree
import Derived.Test.YthnmnpjjpckeeaaLeastClone
import Derived.Maps.RangeWalk
set_option linter.unusedVariables false
set_option linter.unusedSimpArgs false
namespace Go.Proofs.Ythnmnpjjpckeeaa
namespace Arn
open Go.RowKit Hp Go.Maps

theorem run_makeMap_n (n : Int) (w : World) : (Instr.makeMap 75 (some (.int .i64 n))).run Try.prog w = .ok (.map (some w.heap.size)) (w.alloc (.map #[] 0)) := by
  simp [Instr.makeMap, run_underlying mapU, asInt, asIntOf, go_sem]
/-- On the way: those blocks that have come stand in the new map m', each in a row of its own. -/
structure Cop (w : World) (L : List Blk) (m' : Nat) (left : Lit → Bool) (q : Nat → Row) (D' : DataW Unit) (wr : World) : Prop where
  own : wr.ownsMap Try.prog 25 hdr m' (Maps.size D') D'
  has : ∀ k : Int, Maps.has D' (.int .u64 k) = (hasH L k && !left (.int .u64 k))
  at_ : ∀ (i : Nat) (x : Blk), L[i]? = some x → left (.int .u64 x.h) = false → RowOk wr (q i) x ∧ w.heap.size ≤ (q i).g ∧ ∀ z, D'.atKey (.int .u64 x.h) z = hdat (q i).g x.ws.length (q i).c
  apart : ∀ (i j : Nat) (x y : Blk), L[i]? = some x → L[j]? = some y → left (.int .u64 x.h) = false → left (.int .u64 y.h) = false → i ≠ j → (q i).g ≠ (q j).g
  turn : Frm.Turn [] w wr
theorem Cop.turn' {w wr wr' : World} {L : List Blk} {m' : Nat} {left : Lit → Bool} {q : Nat → Row} {D' : DataW Unit} {F : List Nat} (h : Cop w L m' left q D' wr) (ht : Frm.Turn F wr wr') (hm : m' ∉ F) (hq : ∀ (i : Nat) (x : Blk), L[i]? = some x → left (.int .u64 x.h) = false → (q i).g ∉ F) (hw : ∀ k, k ∈ F → w.heap.size ≤ k) : Cop w L m' left q D' wr' :=
  ⟨Lst.own_turn h.own ht hm, h.has, fun i x hx hl => ⟨(h.at_ i x hx hl).1.turn ht (hq i x hx hl), (h.at_ i x hx hl).2⟩, h.apart, h.turn.trans ht (fun k hk => Or.inr (hw k hk))⟩
theorem mem_iff_hasH {L : List Blk} {k : Int} : hasH L k = true ↔ ∃ (i : Nat) (x : Blk), L[i]? = some x ∧ x.h = k := by
  rw [hasH_iff]
  constructor
  · rintro ⟨x, hx, e⟩
    obtain ⟨i, hi⟩ := List.getElem?_of_mem hx
    exact ⟨i, x, hi, e⟩
  · rintro ⟨i, x, hx, e⟩
    exact ⟨x, List.mem_of_getElem? hx, e⟩
def setF (q : Nat → Row) (j : Nat) (r : Row) : Nat → Row := fun i => if i = j then r else q i
/-- One more has come. -/
theorem Cop.step {w wr w3 w4 : World} {L : List Blk} {m' j g' c' : Nat} {left : Lit → Bool} {q : Nat → Row} {D' : DataW Unit} {x : Blk} (h : Cop w L m' left q D' wr) (hi : ∀ a b, a ∈ L → b ∈ L → a.h = b.h → a = b) (hnd : ∀ (i k : Nat) (a b : Blk), L[i]? = some a → L[k]? = some b → a.h = b.h → i = k) (hx : L[j]? = some x)
    (ho : w3.ownsRow 0 25 1 (.slice (some ⟨g', 0, none⟩) x.ws.length c') x.ws.length (u64s x.ws)) (hg : wr.heap.size ≤ g') (T : Frm.Turn [] wr w3) {n : Nat}
    (ho4 : w4.ownsMap Try.prog 25 hdr m' n (D'.put (.int .u64 x.h) (hdat g' x.ws.length c'))) (G : w3.grownBy w4 (some m')) (hm : w.heap.size ≤ m') :
    Cop w L m' (fun z => left z && !z.sameKey (.int .u64 x.h)) (setF q j ⟨x.h, g', c'⟩) (D'.put (.int .u64 x.h) (hdat g' x.ws.length c')) w4 := by
  have hT4 := Frm.Turn.of_grown G
  have hml : m' < wr.heap.size := h.own.lt
  have lf : ∀ k : Int, ((left (.int .u64 k) && !(Lit.int .u64 k).sameKey (.int .u64 x.h)) = false) ↔ (left (.int .u64 k) = false ∨ k = x.h) := fun k => by
    by_cases e : k = x.h
    · subst e
      have : (Lit.int .u64 x.h).sameKey (.int .u64 x.h) = true := WideAt.sameKey_self trivial
      simp [this]
    · have : (Lit.int .u64 k).sameKey (.int .u64 x.h) = false := sameKey_ne (by simpa using e)
      simp [this, e]
  have s1 := h.turn.size
  have s3 := T.size
  have old : ∀ (i : Nat) (y : Blk), L[i]? = some y → left (.int .u64 y.h) = false → i ≠ j → RowOk w4 (q i) y ∧ (q i).g ≠ g' := fun i y hy hl hne => by
    have ha := h.at_ i y hy hl
    have hlt := (World.ownsRow.lt ha.1.own (q i).g rfl).2
    refine ⟨(ha.1.turn T (by simp)).turn hT4 ?_, by omega⟩
    simp
    intro e
    obtain ⟨es, clock, hb, _⟩ := h.own
    rcases ha.1.own.2 with ⟨e', _⟩ | ⟨g, cap, cur, e', _, hb', _⟩
    · cases e'
    · cases e'
      rw [e, hb] at hb'; cases hb'
  have new : RowOk w4 ⟨x.h, g', c'⟩ x := ⟨rfl, Frm.owns_turn ho hT4 (fun k hk => by simp [Value.ownBlock] at hk; subst hk; simp; omega)⟩
  refine ⟨Lst.own_tight ho4, fun k => ?_, fun i y hy hl => ?_, fun i k y z hy hz hl hl' hne => ?_, (h.turn.trans T (by simp)).trans hT4 (fun k hk => by simp at hk; subst hk; exact Or.inr hm)⟩
  · by_cases e : k = x.h
    · subst e
      rw [has_put_same h.own.isMap (k := .int .u64 x.h) trivial]
      have h1 : hasH L x.h = true := mem_iff_hasH.2 ⟨j, x, hx, rfl⟩
      have h2 := (lf x.h).2 (Or.inr rfl)
      rw [h1, h2]; rfl
    · rw [has_put_other (by simpa using e), h.has]
      have : (Lit.int .u64 k).sameKey (.int .u64 x.h) = false := sameKey_ne (by simpa using e)
      simp [this]
  · unfold setF
    by_cases e : i = j
    · subst e
      rw [hx] at hy; cases hy
      rw [if_pos rfl]
      exact ⟨new, by show _ ≤ g'; omega, fun z => atKey_put_same h.own.isMap (k := .int .u64 x.h) trivial _ _⟩
    · rw [if_neg e]
      have hne : y.h ≠ x.h := fun e' => e (hnd i j y x hy hx e')
      rcases (lf y.h).1 hl with hl | hl
      · obtain ⟨o1, o2⟩ := old i y hy hl e
        have ha := h.at_ i y hy hl
        refine ⟨o1, ha.2.1, fun z => ?_⟩
        rw [atKey_put_other (by simpa using hne)]
        exact ha.2.2 z
      · exact absurd hl hne
  · unfold setF
    by_cases e : i = j
    · have e' : k ≠ j := fun e' => hne (by rw [e, e'])
      rw [if_pos e, if_neg e']
      rcases (lf z.h).1 hl' with hl' | hl'
      · exact fun e2 => (old k z hz hl' e').2 e2.symm
      · exact absurd (hnd k j z x hz hx hl') e'
    · rw [if_neg e]
      rcases (lf y.h).1 hl with hl | hl
      · by_cases e' : k = j
        · rw [if_pos e']
          exact (old i y hy hl e).2
        · rw [if_neg e']
          rcases (lf z.h).1 hl' with hl' | hl'
          · exact h.apart i k y z hy hz hl hl' hne
          · exact absurd (hnd k j z x hz hx hl') e'
      · exact absurd (hnd i j y x hy hx hl) e
theorem ArAt.inj {w : World} {b : Nat} {M : Mem} {A : Ar} (h : ArAt w b M A) : ∀ (i k : Nat) (x y : Blk), A.L[i]? = some x → A.L[k]? = some y → x.h = y.h → i = k := fun i k x y hx hy e => by
  rcases Nat.lt_trichotomy i k with e1 | e1 | e1
  · have := rise_get h.ok.rise hx hy e1; omega
  · exact e1
  · have := rise_get h.ok.rise hy hx e1; omega

/-- The copies: a map of those blocks, whose rows are new. -/
structure Copied (w : World) (m' : Nat) (B' : List Row) (L : List Blk) (w' : World) : Prop where
  map : ∃ D, MapAt w' m' B' L D
  rows : B'.length = L.length ∧ ∀ (i : Nat) (r : Row) (x : Blk), B'[i]? = some r → L[i]? = some x → RowOk w' r x
  new : ∀ k, k ∈ B'.map Row.g → w.heap.size ≤ k
  newm : w.heap.size ≤ m'
  apart : (m' :: B'.map Row.g).Nodup
  turn : Frm.Turn [] w w'
theorem Copied.of {w wr : World} {L : List Blk} {m' : Nat} {left : Lit → Bool} {q : Nat → Row} {D' : DataW Unit} (h : Cop w L m' left q D' wr) (hl : ∀ k, left k = false) (hm : w.heap.size ≤ m') (hs : Maps.size D' = L.length) : Copied w m' ((List.range L.length).map q) L wr := by
  have get : ∀ (i : Nat) (r : Row), ((List.range L.length).map q)[i]? = some r → i < L.length ∧ r = q i := fun i r hr => by
    rw [List.getElem?_map] at hr
    obtain ⟨a, ha, rfl⟩ := Option.map_eq_some_iff.1 hr
    obtain ⟨hlt, e⟩ := List.getElem?_eq_some_iff.1 ha
    rw [List.getElem_range] at e
    subst e
    exact ⟨by simpa using hlt, rfl⟩
  have mem : ∀ k, k ∈ ((List.range L.length).map q).map Row.g → ∃ i, i < L.length ∧ k = (q i).g := fun k hk => by
    simp at hk
    obtain ⟨a, ha, rfl⟩ := hk
    exact ⟨a, ha, rfl⟩
  refine ⟨⟨D', ⟨h.own, hs, fun k => by rw [h.has, hl]; simp, fun i r x hr hx z => ?_⟩⟩, ⟨by simp, fun i r x hr hx => ?_⟩, fun k hk => ?_, hm, ?_, h.turn⟩
  · obtain ⟨_, rfl⟩ := get i r hr
    have := h.at_ i x hx (hl _)
    rw [this.1.h]; exact this.2.2 z
  · obtain ⟨_, rfl⟩ := get i r hr
    exact (h.at_ i x hx (hl _)).1
  · obtain ⟨i, hi, rfl⟩ := mem k hk
    exact (h.at_ i _ (List.getElem?_eq_getElem hi) (hl _)).2.1
  · refine List.nodup_cons.2 ⟨fun hc => ?_, ?_⟩
    · obtain ⟨i, hi, e⟩ := mem _ hc
      have ha := (h.at_ i _ (List.getElem?_eq_getElem hi) (hl _)).1
      obtain ⟨es, clock, hb, _⟩ := h.own
      rcases ha.own.2 with ⟨e', _⟩ | ⟨g, cap, cur, e', _, hb', _⟩
      · cases e'
      · cases e'
        rw [← e, hb] at hb'; cases hb'
    · rw [List.map_map, List.Nodup, List.pairwise_map]
      refine List.Pairwise.imp_of_mem ?_ (List.nodup_range (n := L.length))
      intro a c ha hc hne
      have ha := List.mem_range.1 ha
      have hc := List.mem_range.1 hc
      exact h.apart a c _ _ (List.getElem?_eq_getElem ha) (List.getElem?_eq_getElem hc) (hl _) (hl _) hne

theorem count_one {x : Blk} {p p' : Blk → Bool} (h0 : p x = false) : ∀ (l : List Blk), l.Pairwise (fun a b => a.h ≠ b.h) → x ∈ l → (∀ y, y ∈ l → p' y = (p y || y.h == x.h)) → l.countP p' = l.countP p + 1 := by
  intro l
  induction l with
  | nil => intro _ hx; simp at hx
  | cons y t ih =>
    intro hnd hx hp
    obtain ⟨n1, n2⟩ := List.pairwise_cons.1 hnd
    rw [List.countP_cons, List.countP_cons]
    rcases List.mem_cons.1 hx with rfl | hx
    · have e1 : p' x = true := by rw [hp x (by simp)]; simp
      have e2 : t.countP p' = t.countP p := List.countP_congr (fun z hz => by
        rw [hp z (by simp [hz])]
        have : (z.h == x.h) = false := by simpa using fun e => n1 z hz e.symm
        rw [this, Bool.or_false])
      rw [e1, e2, h0]; simp
    · have e1 : p' y = p y := by
        rw [hp y (by simp)]
        have : (y.h == x.h) = false := by simpa using n1 x hx
        rw [this, Bool.or_false]
      rw [ih n2 hx (fun z hz => hp z (by simp [hz])), e1]; omega
theorem grown_of {w w' : World} (h : Frm.Turn [] w w') : w.grownBy w' none := ⟨h.os, h.tape, h.output, h.size, fun k hk _ => h.block k hk (by simp)⟩
def CopRel (w : World) (b m' r : Nat) (M : Mem) (L : List Blk) (D : DataW Unit) (wr : World) : Prop :=
  ∃ (left : Lit → Bool) (cnt : Nat) (q : Nat → Row) (D' : DataW Unit), wr.ranges Try.prog 25 hdr M.m r (Maps.size D) D left cnt ∧ Cop w L m' left q D' wr ∧ Maps.size D' = L.countP fun y => !left (.int .u64 y.h)

attribute [local go_sem ↓] Go.wp_at_zero Go.wp_at_succ
end Arn
end Go.Proofs.Ythnmnpjjpckeeaa
