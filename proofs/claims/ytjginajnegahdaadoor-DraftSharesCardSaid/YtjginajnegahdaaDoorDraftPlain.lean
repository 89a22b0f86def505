/- A draft, plainly: links, new nodes, what is known, what was dropped; what each call makes of it. No program is spoken of here. -/
import Derived.WalkKit
set_option linter.unusedVariables false
set_option linter.unusedSimpArgs false
namespace Go.Proofs.YtjginajnegahdaaDoor
namespace Drf

/-- A link: a word, and the number of the new node that it leads to. -/
structure Ln where
  w : Int
  k : Option Nat
deriving DecidableEq
def ln0 : Ln := ⟨0, none⟩
def noughts : List Ln := [ln0, ln0, ln0, ln0]
/-- A new node: its level, its links, whether it is none any more, the handle that it was laid with. -/
structure Nd where
  lv : Nat
  ls : List Ln
  gone : Bool
  h : Option Int
def nd0 : Nd := ⟨0, [], false, none⟩
/-- A draft. -/
structure Dr where
  know : Int → Option (List Int)
  tops : List Ln
  lens : List Int
  front : Int
  made : List Nd
  drop : List Int
/-- Where a link stands: at the top of a tree, or in a new node. -/
abbrev Place := Option Nat × Nat
def W64 (x : Int) : Prop := 0 ≤ x ∧ x < 18446744073709551616
def Dr.node (D : Dr) (i : Nat) : Nd := D.made.getD i nd0
def Dr.at (D : Dr) : Place → Ln
  | (none, t) => D.tops.getD t ln0
  | (some i, d) => (D.node i).ls.getD d ln0
def Dr.put (D : Dr) (p : Place) (x : Ln) : Dr :=
  match p with
  | (none, t) => { D with tops := D.tops.set t x }
  | (some i, d) => { D with made := D.made.modify i fun n => { n with ls := n.ls.set d x } }
def Dr.Has (D : Dr) : Place → Prop
  | (none, t) => t < D.tops.length
  | (some i, d) => i < D.made.length ∧ d < (D.node i).ls.length
/-- The level of what a link leads to. -/
def Dr.lvl (D : Dr) : Place → Nat
  | (none, _) => 0
  | (some i, _) => (D.node i).lv + 1

theorem Dr.node_at {D : Dr} {i : Nat} {n : Nd} (h : D.made[i]? = some n) : D.node i = n := by simp [Dr.node, h]
theorem Dr.made_at {D : Dr} {i : Nat} (h : i < D.made.length) : D.made[i]? = some (D.node i) := by
  simp [Dr.node, h]

section put
variable {D : Dr} {p q : Place} {x : Ln}
theorem Dr.put_len : (D.put p x).made.length = D.made.length := by
  unfold Dr.put; split <;> simp
theorem Dr.put_tops : (D.put p x).tops.length = D.tops.length := by
  unfold Dr.put; split <;> simp
theorem Dr.put_know : (D.put p x).know = D.know := by unfold Dr.put; split <;> rfl
theorem Dr.put_drop : (D.put p x).drop = D.drop := by unfold Dr.put; split <;> rfl
theorem Dr.put_lens : (D.put p x).lens = D.lens := by unfold Dr.put; split <;> rfl
theorem Dr.put_front : (D.put p x).front = D.front := by unfold Dr.put; split <;> rfl
theorem Dr.put_get (i : Nat) : (D.put p x).made[i]? = (D.made[i]?).map fun n => if p.1 = some i then { n with ls := n.ls.set p.2 x } else n := by
  unfold Dr.put
  split
  · simp
  · rename_i j d
    simp only [List.getElem?_modify, Option.some.injEq]
    by_cases e : j = i <;> simp [e]
theorem Dr.put_node (i : Nat) (h : i < D.made.length) : (D.put p x).node i = if p.1 = some i then { D.node i with ls := (D.node i).ls.set p.2 x } else D.node i := by
  have := Dr.put_get (D := D) (p := p) (x := x) i
  rw [Dr.made_at h] at this
  rw [Dr.node_at this]
theorem Dr.put_lv (i : Nat) : ((D.put p x).node i).lv = (D.node i).lv := by
  by_cases h : i < D.made.length
  · rw [Dr.put_node i h]; split <;> rfl
  · simp [Dr.node, List.getD_eq_getElem?_getD, Dr.put_get, h]
theorem Dr.put_gone (i : Nat) : ((D.put p x).node i).gone = (D.node i).gone := by
  by_cases h : i < D.made.length
  · rw [Dr.put_node i h]; split <;> rfl
  · simp [Dr.node, List.getD_eq_getElem?_getD, Dr.put_get, h]
theorem Dr.put_h (i : Nat) : ((D.put p x).node i).h = (D.node i).h := by
  by_cases h : i < D.made.length
  · rw [Dr.put_node i h]; split <;> rfl
  · simp [Dr.node, List.getD_eq_getElem?_getD, Dr.put_get, h]
theorem Dr.put_ls (i : Nat) : ((D.put p x).node i).ls.length = (D.node i).ls.length := by
  by_cases h : i < D.made.length
  · rw [Dr.put_node i h]; split <;> simp
  · simp [Dr.node, List.getD_eq_getElem?_getD, Dr.put_get, h]
theorem Dr.put_lvl : (D.put p x).lvl q = D.lvl q := by
  obtain ⟨o, d⟩ := q
  cases o with
  | none => rfl
  | some i => simp [Dr.lvl, Dr.put_lv]
theorem Dr.put_has : (D.put p x).Has q ↔ D.Has q := by
  obtain ⟨o, d⟩ := q
  cases o with
  | none => simp [Dr.Has, Dr.put_tops]
  | some i => simp [Dr.Has, Dr.put_len, Dr.put_ls]
theorem Dr.at_put_same (h : D.Has p) : (D.put p x).at p = x := by
  obtain ⟨o, d⟩ := p
  cases o with
  | none => simp only [Dr.Has] at h; simp [Dr.at, Dr.put, List.getD_eq_getElem?_getD, h]
  | some i =>
    simp only [Dr.Has] at h
    simp only [Dr.at]
    rw [Dr.put_node i h.1, if_pos rfl]
    simp [List.getD_eq_getElem?_getD, h.2]
theorem Dr.at_put_other (h : p ≠ q) : (D.put p x).at q = D.at q := by
  obtain ⟨o, d⟩ := p
  obtain ⟨o', e⟩ := q
  cases o' with
  | none =>
    cases o with
    | none =>
      have : d ≠ e := fun he => h (by rw [he])
      simp [Dr.at, Dr.put, List.getD_eq_getElem?_getD, List.getElem?_set_ne this]
    | some i => rfl
  | some j =>
    simp only [Dr.at]
    by_cases hj : j < D.made.length
    · rw [Dr.put_node j hj]
      split
      · rename_i hi
        simp only at hi
        subst hi
        have : d ≠ e := fun he => h (by rw [he])
        simp [List.getD_eq_getElem?_getD, List.getElem?_set_ne this]
      · rfl
    · simp [Dr.node, List.getD_eq_getElem?_getD, Dr.put_get, hj]
theorem Dr.at_out (h : ¬ D.Has p) : D.at p = ln0 := by
  obtain ⟨o, d⟩ := p
  cases o with
  | none => simp only [Dr.Has] at h; simp [Dr.at, List.getD_eq_getElem?_getD, h]
  | some i =>
    simp only [Dr.Has] at h
    simp only [Dr.at, List.getD_eq_getElem?_getD]
    by_cases h1 : i < D.made.length
    · rw [List.getElem?_eq_none (by omega)]; rfl
    · simp [Dr.node, List.getD_eq_getElem?_getD, h1, nd0]
end put

/-- A draft that calls made; n bounds what they made. -/
structure Wf (D : Dr) (n : Nat) : Prop where
  three : D.tops.length = 3
  four : ∀ i, i < D.made.length → (D.node i).ls.length = 4 ∧ (D.node i).lv ≤ 3
  kid : ∀ p k, (D.at p).k = some k → k < D.made.length ∧ (D.node k).gone = false ∧ (D.node k).lv = D.lvl p
  one : ∀ p q k, (D.at p).k = some k → (D.at q).k = some k → p = q
  word : ∀ p, W64 (D.at p).w
  know : ∀ h l, D.know h = some l → l.length = 4 ∧ ∀ x, x ∈ l → W64 x
  made : D.made.length ≤ n
  drop : D.drop.length ≤ n
  drp : ∀ x, x ∈ D.drop → W64 x
  lens : D.lens.length = 3

theorem Wf.mono {D : Dr} {n m : Nat} (h : Wf D n) (hm : n ≤ m) : Wf D m := ⟨h.three, h.four, h.kid, h.one, h.word, h.know, Nat.le_trans h.made hm, Nat.le_trans h.drop hm, h.drp, h.lens⟩

/-- The numbers of the new nodes of a level, in their order. -/
def rowOf (made : List Nd) (l : Nat) : List Nat := (List.range made.length).filter fun i => (made.getD i nd0).lv == l && !(made.getD i nd0).gone
def Dr.row (D : Dr) (l : Nat) : List Nat := rowOf D.made l
theorem row_mem {D : Dr} {l i : Nat} : i ∈ D.row l ↔ i < D.made.length ∧ (D.node i).lv = l ∧ (D.node i).gone = false := by
  simp [Dr.row, rowOf, Dr.node, and_assoc]
theorem row_nodup (D : Dr) (l : Nat) : (D.row l).Nodup := List.Pairwise.filter _ List.nodup_range
theorem row_le (D : Dr) (l : Nat) : (D.row l).length ≤ D.made.length := by
  have := List.length_filter_le (fun i => (D.made.getD i nd0).lv == l && !(D.made.getD i nd0).gone) (List.range D.made.length)
  simpa [Dr.row, rowOf] using this
theorem row_congr {D D' : Dr} {l : Nat} (hl : D'.made.length = D.made.length) (h : ∀ i, i < D.made.length → (D'.node i).lv = (D.node i).lv ∧ (D'.node i).gone = (D.node i).gone) : D'.row l = D.row l := by
  unfold Dr.row rowOf
  rw [hl]
  refine List.filter_congr fun i hi => ?_
  have := h i (by simpa using hi)
  simp only [Dr.node] at this
  rw [this.1, this.2]
theorem row_put {D : Dr} {p : Place} {x : Ln} {l : Nat} : (D.put p x).row l = D.row l := row_congr Dr.put_len fun i _ => ⟨Dr.put_lv i, Dr.put_gone i⟩

/-! ### a node anew -/
def Dr.linksOf (D : Dr) (x : Int) : List Ln := if x = 0 then noughts else ((D.know x).getD [0, 0, 0, 0]).map fun y => ⟨y, none⟩
def Dr.grow (D : Dr) (x : Int) (lv : Nat) : Dr :=
  { D with made := D.made ++ [⟨lv, D.linksOf x, false, none⟩], drop := if x = 0 then D.drop else D.drop ++ [x] }
def Dr.renew (D : Dr) (p : Place) (lv : Nat) : Dr :=
  match (D.at p).k with
  | some _ => D
  | none => (D.grow (D.at p).w lv).put p ⟨0, some D.made.length⟩
def Dr.kidAt (D : Dr) (p : Place) : Nat := ((D.at p).k).getD 0
theorem linksOf_len {D : Dr} {n : Nat} (h : Wf D n) (x : Int) : (D.linksOf x).length = 4 := by
  unfold Dr.linksOf
  split
  · rfl
  · cases hk : D.know x with
    | none => simp
    | some l => simp [(h.know x l hk).1]
theorem linksOf_mem {D : Dr} {n : Nat} (h : Wf D n) {x : Int} {y : Ln} (hy : y ∈ D.linksOf x) : y.k = none ∧ W64 y.w := by
  unfold Dr.linksOf at hy
  split at hy
  · simp [noughts, ln0] at hy; subst hy; exact ⟨rfl, by decide, by decide⟩
  · simp only [List.mem_map] at hy
    obtain ⟨u, hu, rfl⟩ := hy
    refine ⟨rfl, ?_⟩
    cases hk : D.know x with
    | none => simp [hk] at hu; subst hu; exact ⟨by decide, by decide⟩
    | some l => rw [hk] at hu; exact (h.know x l hk).2 u hu
section grow
variable {D : Dr} {n : Nat} {x : Int} {lv : Nat}
theorem grow_old (i : Nat) (h : i < D.made.length) : (D.grow x lv).node i = D.node i := by
  simp [Dr.grow, Dr.node, List.getD_eq_getElem?_getD, List.getElem?_append_left h]
theorem grow_new : (D.grow x lv).node D.made.length = ⟨lv, D.linksOf x, false, none⟩ := by
  simp [Dr.grow, Dr.node, List.getD_eq_getElem?_getD]
theorem grow_len : (D.grow x lv).made.length = D.made.length + 1 := by simp [Dr.grow]
theorem grow_at (p : Place) (h : p.1 ≠ some D.made.length) : (D.grow x lv).at p = D.at p := by
  obtain ⟨o, d⟩ := p
  cases o with
  | none => rfl
  | some i =>
    simp only [Dr.at]
    by_cases hi : i < D.made.length
    · rw [grow_old i hi]
    · have : i ≠ D.made.length := fun e => h (by rw [e])
      have h1 : ¬ i < D.made.length + 1 := by omega
      simp [Dr.node, List.getD_eq_getElem?_getD, Dr.grow, hi, h1]
theorem grow_at_new (h : Wf D n) (d : Nat) : ((D.grow x lv).at (some D.made.length, d)).k = none ∧ W64 ((D.grow x lv).at (some D.made.length, d)).w := by
  simp only [Dr.at, grow_new]
  rw [List.getD_eq_getElem?_getD]
  cases hc : (D.linksOf x)[d]? with
  | none => exact ⟨rfl, by decide, by decide⟩
  | some y => exact linksOf_mem h (List.mem_of_getElem? hc)
theorem grow_row (l : Nat) : (D.grow x lv).row l = if lv = l then D.row l ++ [D.made.length] else D.row l := by
  unfold Dr.row rowOf
  rw [grow_len, List.range_succ, List.filter_append]
  have h1 : (List.range D.made.length).filter (fun i => ((D.grow x lv).made.getD i nd0).lv == l && !((D.grow x lv).made.getD i nd0).gone) = (List.range D.made.length).filter (fun i => (D.made.getD i nd0).lv == l && !(D.made.getD i nd0).gone) := by
    refine List.filter_congr fun i hi => ?_
    have := grow_old (D := D) (x := x) (lv := lv) i (by simpa using hi)
    simp only [Dr.node] at this
    rw [this]
  have h2 := grow_new (D := D) (x := x) (lv := lv)
  simp only [Dr.node] at h2
  rw [h1]
  simp only [List.filter_cons, h2, List.filter_nil]
  by_cases e : lv = l <;> simp [e]
theorem grow_wf (h : Wf D n) (hx : W64 x) (hl : lv ≤ 3) : Wf (D.grow x lv) (n + 1) := by
  have hat : ∀ p k, ((D.grow x lv).at p).k = some k → p.1 ≠ some D.made.length ∧ (D.at p).k = some k := fun p k hk => by
    have hp : p.1 ≠ some D.made.length := fun e => by
      obtain ⟨o, d⟩ := p
      simp only at e
      subst e
      rw [(grow_at_new h d).1] at hk; cases hk
    rw [grow_at p hp] at hk
    exact ⟨hp, hk⟩
  refine ⟨h.three, fun i hi => ?_, fun p k hk => ?_, fun p q k hp hq => ?_, fun p => ?_, h.know, ?_, ?_, fun y hy => ?_, h.lens⟩
  · rw [grow_len] at hi
    by_cases e : i = D.made.length
    · subst e; rw [grow_new]; exact ⟨linksOf_len h x, hl⟩
    · rw [grow_old i (by omega)]; exact h.four i (by omega)
  · obtain ⟨hp, hk⟩ := hat p k hk
    obtain ⟨h1, h2, h3⟩ := h.kid p k hk
    refine ⟨by rw [grow_len]; omega, by rw [grow_old k h1]; exact h2, ?_⟩
    rw [grow_old k h1, h3]
    obtain ⟨o, d⟩ := p
    cases o with
    | none => rfl
    | some i =>
      simp only [Dr.lvl]
      by_cases hi : i < D.made.length
      · rw [grow_old i hi]
      · have hno : D.at (some i, d) = ln0 := Dr.at_out (fun hh => hi hh.1)
        rw [hno] at hk; cases hk
  · exact h.one p q k (hat p k hp).2 (hat q k hq).2
  · by_cases e : p.1 = some D.made.length
    · obtain ⟨o, d⟩ := p
      simp only at e
      subst e
      exact (grow_at_new h d).2
    · rw [grow_at p e]; exact h.word p
  · rw [grow_len]; have := h.made; omega
  · have := h.drop
    simp only [Dr.grow]
    split <;> simp <;> omega
  · simp only [Dr.grow] at hy
    split at hy
    · exact h.drp y hy
    · rcases List.mem_append.1 hy with hy | hy
      · exact h.drp y hy
      · simp at hy; subst hy; exact hx
end grow
/-- A link to a new node that nothing leads to yet. -/
theorem put_new_wf {D : Dr} {n : Nat} (h : Wf D n) {p : Place} {k : Nat} {x : Int} (hx : W64 x) (hk : k < D.made.length) (hg : (D.node k).gone = false) (hl : (D.node k).lv = D.lvl p) (hn : ∀ q, (D.at q).k ≠ some k) (hp : D.Has p) : Wf (D.put p ⟨x, some k⟩) n := by
  refine ⟨by rw [Dr.put_tops]; exact h.three, fun i hi => ?_, fun q j hj => ?_, fun q r j hq hr => ?_, fun q => ?_, by rw [Dr.put_know]; exact h.know, by rw [Dr.put_len]; exact h.made, by rw [Dr.put_drop]; exact h.drop, by rw [Dr.put_drop]; exact h.drp, by rw [Dr.put_lens]; exact h.lens⟩
  · rw [Dr.put_len] at hi
    rw [Dr.put_ls, Dr.put_lv]; exact h.four i hi
  · rw [Dr.put_len, Dr.put_gone, Dr.put_lv, Dr.put_lvl]
    by_cases e : p = q
    · subst e
      rw [Dr.at_put_same hp] at hj
      simp only [Option.some.injEq] at hj
      subst hj
      exact ⟨hk, hg, hl⟩
    · rw [Dr.at_put_other e] at hj
      exact h.kid q j hj
  · by_cases e : p = q
    · by_cases e2 : p = r
      · rw [← e, ← e2]
      · subst e
        rw [Dr.at_put_same hp] at hq
        rw [Dr.at_put_other e2] at hr
        simp only [Option.some.injEq] at hq
        subst hq
        exact absurd hr (hn r)
    · by_cases e2 : p = r
      · subst e2
        rw [Dr.at_put_same hp] at hr
        rw [Dr.at_put_other e] at hq
        simp only [Option.some.injEq] at hr
        subst hr
        exact absurd hq (hn q)
      · rw [Dr.at_put_other e] at hq
        rw [Dr.at_put_other e2] at hr
        exact h.one q r j hq hr
  · by_cases e : p = q
    · subst e; rw [Dr.at_put_same hp]; exact hx
    · rw [Dr.at_put_other e]; exact h.word q
/-- A word, and no new node. -/
theorem put_word_wf {D : Dr} {n : Nat} (h : Wf D n) {p : Place} {x : Int} (hx : W64 x) (hp : D.Has p) : Wf (D.put p ⟨x, none⟩) n := by
  refine ⟨by rw [Dr.put_tops]; exact h.three, fun i hi => ?_, fun q j hj => ?_, fun q r j hq hr => ?_, fun q => ?_, by rw [Dr.put_know]; exact h.know, by rw [Dr.put_len]; exact h.made, by rw [Dr.put_drop]; exact h.drop, by rw [Dr.put_drop]; exact h.drp, by rw [Dr.put_lens]; exact h.lens⟩
  · rw [Dr.put_len] at hi
    rw [Dr.put_ls, Dr.put_lv]; exact h.four i hi
  · have e : p ≠ q := fun e => by subst e; rw [Dr.at_put_same hp] at hj; cases hj
    rw [Dr.put_len, Dr.put_gone, Dr.put_lv, Dr.put_lvl]
    rw [Dr.at_put_other e] at hj
    exact h.kid q j hj
  · have e : p ≠ q := fun e => by subst e; rw [Dr.at_put_same hp] at hq; cases hq
    have e2 : p ≠ r := fun e => by subst e; rw [Dr.at_put_same hp] at hr; cases hr
    rw [Dr.at_put_other e] at hq
    rw [Dr.at_put_other e2] at hr
    exact h.one q r j hq hr
  · by_cases e : p = q
    · subst e; rw [Dr.at_put_same hp]; exact hx
    · rw [Dr.at_put_other e]; exact h.word q
theorem renew_wf {D : Dr} {n : Nat} (h : Wf D n) {p : Place} {lv : Nat} (hp : D.Has p) (hl : D.lvl p = lv) (h3 : lv ≤ 3) : Wf (D.renew p lv) (n + 1) := by
  unfold Dr.renew
  split
  · exact h.mono (Nat.le_succ n)
  · rename_i hk
    have hpn : p.1 ≠ some D.made.length := fun e => by
      obtain ⟨o, d⟩ := p
      simp only at e; subst e
      have := hp.1; omega
    have hg := grow_wf (lv := lv) h (h.word p) h3
    refine put_new_wf hg ⟨by decide, by decide⟩ (by rw [grow_len]; omega) (by rw [grow_new]) ?_ (fun q hq => ?_) ?_
    · rw [grow_new, ← hl]
      obtain ⟨o, d⟩ := p
      cases o with
      | none => rfl
      | some i => simp only [Dr.lvl]; rw [grow_old i hp.1]
    · have := (hg.kid q _ hq).1
      by_cases e : q.1 = some D.made.length
      · obtain ⟨o, d⟩ := q
        simp only at e; subst e
        rw [(grow_at_new h d).1] at hq; cases hq
      · rw [grow_at q e] at hq
        have := (h.kid q _ hq).1; omega
    · obtain ⟨o, d⟩ := p
      cases o with
      | none => exact hp
      | some i => exact ⟨by rw [grow_len]; have := hp.1; omega, by rw [grow_old i hp.1]; exact hp.2⟩
/-! ### a node that is none any more -/
def Dr.lose (D : Dr) (k : Nat) : Dr := { D with made := D.made.modify k fun n => { n with gone := true } }
def Dr.prune (D : Dr) (p : Place) : Dr := if (D.node (D.kidAt p)).ls = noughts then (D.put p ln0).lose (D.kidAt p) else D
section lose
variable {D : Dr} {k : Nat}
theorem lose_get (i : Nat) : (D.lose k).made[i]? = (D.made[i]?).map fun n => if k = i then { n with gone := true } else n := by
  simp only [Dr.lose, List.getElem?_modify]
  by_cases e : k = i <;> simp [e]
theorem lose_len : (D.lose k).made.length = D.made.length := by simp [Dr.lose]
theorem lose_node (i : Nat) (h : i < D.made.length) : (D.lose k).node i = if k = i then { D.node i with gone := true } else D.node i := by
  have := lose_get (D := D) (k := k) i
  rw [Dr.made_at h] at this
  rw [Dr.node_at this]
theorem lose_ls (i : Nat) : ((D.lose k).node i).ls = (D.node i).ls := by
  by_cases h : i < D.made.length
  · rw [lose_node i h]; split <;> rfl
  · simp [Dr.node, List.getD_eq_getElem?_getD, lose_get, h]
theorem lose_lv (i : Nat) : ((D.lose k).node i).lv = (D.node i).lv := by
  by_cases h : i < D.made.length
  · rw [lose_node i h]; split <;> rfl
  · simp [Dr.node, List.getD_eq_getElem?_getD, lose_get, h]
theorem lose_h (i : Nat) : ((D.lose k).node i).h = (D.node i).h := by
  by_cases h : i < D.made.length
  · rw [lose_node i h]; split <;> rfl
  · simp [Dr.node, List.getD_eq_getElem?_getD, lose_get, h]
theorem lose_at (p : Place) : (D.lose k).at p = D.at p := by
  obtain ⟨o, d⟩ := p
  cases o with
  | none => rfl
  | some i => simp only [Dr.at, lose_ls]
theorem lose_lvl (p : Place) : (D.lose k).lvl p = D.lvl p := by
  obtain ⟨o, d⟩ := p
  cases o with
  | none => rfl
  | some i => simp only [Dr.lvl, lose_lv]
theorem lose_has (p : Place) : (D.lose k).Has p ↔ D.Has p := by
  obtain ⟨o, d⟩ := p
  cases o with
  | none => exact Iff.rfl
  | some i => simp only [Dr.Has, lose_ls, lose_len]
theorem lose_wf {n : Nat} (h : Wf D n) (hn : ∀ q, (D.at q).k ≠ some k) : Wf (D.lose k) n := by
  refine ⟨h.three, fun i hi => ?_, fun p j hj => ?_, fun p q j hp hq => ?_, fun p => by rw [lose_at]; exact h.word p, h.know, by rw [lose_len]; exact h.made, h.drop, h.drp, h.lens⟩
  · rw [lose_len] at hi
    rw [lose_ls, lose_lv]; exact h.four i hi
  · rw [lose_at] at hj
    obtain ⟨h1, h2, h3⟩ := h.kid p j hj
    refine ⟨by rw [lose_len]; exact h1, ?_, by rw [lose_lv, lose_lvl]; exact h3⟩
    rw [lose_node j h1, if_neg (fun e => hn p (by rw [e]; exact hj))]
    exact h2
  · rw [lose_at] at hp hq
    exact h.one p q j hp hq
theorem lose_row {l : Nat} : (D.lose k).row l = (D.row l).erase k := by
  rw [(row_nodup D l).erase_eq_filter]
  unfold Dr.row rowOf
  rw [lose_len, List.filter_filter]
  refine List.filter_congr fun i hi => ?_
  have hi : i < D.made.length := by simpa using hi
  have := lose_node (D := D) (k := k) i hi
  simp only [Dr.node] at this
  rw [this]
  by_cases e : k = i
  · simp [e]
  · have : ¬ i = k := fun h => e h.symm
    simp [e, this]
end lose
theorem prune_wf {D : Dr} {n : Nat} (h : Wf D n) {p : Place} (hp : D.Has p) {k : Nat} (hk : (D.at p).k = some k) : Wf (D.prune p) n := by
  unfold Dr.prune
  split
  · have e : D.kidAt p = k := by simp [Dr.kidAt, hk]
    rw [e]
    refine lose_wf (put_word_wf h ⟨by decide, by decide⟩ hp) (fun q hq => ?_)
    by_cases e : p = q
    · subst e
      rw [Dr.at_put_same hp] at hq; cases hq
    · rw [Dr.at_put_other e] at hq
      exact e (h.one p q k hk hq)
  · exact h
end Drf
end Go.Proofs.YtjginajnegahdaaDoor
