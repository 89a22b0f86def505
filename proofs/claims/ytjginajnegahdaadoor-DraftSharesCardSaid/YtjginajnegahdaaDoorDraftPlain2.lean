/- A draft, plainly: finding, writing, the operations. No program is spoken of here. -/
import Derived.Test.YtjginajnegahdaaDoorDraftPlain
set_option linter.unusedVariables false
set_option linter.unusedSimpArgs false
namespace Go.Proofs.YtjginajnegahdaaDoor
namespace Drf

/-- The digits of a key, from the level 0 on. -/
def dig (key : Int) (lv : Nat) : Nat := (if lv = 0 then key / 64 % 4 else if lv = 1 then key / 16 % 4 else if lv = 2 then key / 4 % 4 else key % 4).toNat
theorem dig_lt (key : Int) (lv : Nat) : dig key lv < 4 := by
  unfold dig; split
  · omega
  · split
    · omega
    · split <;> omega
def Dr.below (D : Dr) (a : Ln) (d : Nat) : Option Ln :=
  match a.k with
  | some k => some (D.at (some k, d))
  | none => if a.w = 0 then some ln0 else (D.know a.w).map fun n => ⟨n.getD d 0, none⟩
/-- From a link down, n levels that begin with lv: the word; the node that is needed. -/
def Dr.findFrom (D : Dr) (key : Int) : Nat → Nat → Ln → Int × Int
  | 0, _, a => (a.w, 0)
  | n + 1, lv, a =>
    match D.below a (dig key lv) with
    | none => (0, a.w)
    | some x => D.findFrom key n (lv + 1) x
def Dr.find (D : Dr) (tree : Nat) (key : Int) : Int × Int := D.findFrom key 4 0 (D.tops.getD tree ln0)
theorem below_word {D : Dr} {n : Nat} (h : Wf D n) {a x : Ln} {d : Nat} (ha : W64 a.w) (hb : D.below a d = some x) : W64 x.w := by
  unfold Dr.below at hb
  split at hb
  · cases hb; exact h.word _
  · split at hb
    · cases hb; exact ⟨by decide, by decide⟩
    · obtain ⟨l, hl, rfl⟩ := Option.map_eq_some_iff.1 hb
      have := h.know _ _ hl
      show W64 (l.getD d 0)
      rw [List.getD_eq_getElem?_getD]
      cases hc : l[d]? with
      | none => exact ⟨by decide, by decide⟩
      | some y => exact this.2 y (List.mem_of_getElem? hc)
theorem find_word {D : Dr} {n : Nat} (h : Wf D n) (key : Int) : ∀ (m lv : Nat) (a : Ln), W64 a.w → W64 (D.findFrom key m lv a).1 ∧ W64 (D.findFrom key m lv a).2 := by
  intro m
  induction m with
  | zero => intro lv a ha; exact ⟨ha, (show W64 0 from ⟨by decide, by decide⟩)⟩
  | succ m ih =>
    intro lv a ha
    simp only [Dr.findFrom]
    split
    · exact ⟨(show W64 0 from ⟨by decide, by decide⟩), ha⟩
    · rename_i x hx
      exact ih (lv + 1) x (below_word h ha hx)

/-! ### writing -/
/-- Behind i levels: the draft, and the places of the way, the last one ahead. -/
def Dr.downTo (D : Dr) (tree : Nat) (key : Int) : Nat → Dr × List Place
  | 0 => (D, [(none, tree)])
  | i + 1 =>
    let q := (D.downTo tree key i).2.headD (none, tree)
    let E := (D.downTo tree key i).1.renew q i
    (E, (some (E.kidAt q), dig key i) :: (D.downTo tree key i).2)
def Dr.cut (D : Dr) : List Place → Dr
  | [] => D
  | p :: r => (D.prune p).cut r
def Dr.write (D : Dr) (tree : Nat) (key : Int) (x : Int) : Dr :=
  (((D.downTo tree key 4).1).put ((D.downTo tree key 4).2.headD (none, tree)) ⟨x, none⟩).cut (D.downTo tree key 4).2.tail
/-- The places of a way, the last one ahead: each stands in the node that the one above leads to. -/
def Way (D : Dr) : Nat → List Place → Prop
  | _, [] => False
  | lv, [p] => D.Has p ∧ D.lvl p = lv ∧ lv = 0
  | lv, p :: q :: r => D.Has p ∧ D.lvl p = lv ∧ (D.at q).k = p.1 ∧ p.1.isSome ∧ 1 ≤ lv ∧ Way D (lv - 1) (q :: r)
theorem renew_len (D : Dr) (p : Place) (lv : Nat) : D.made.length ≤ (D.renew p lv).made.length := by
  unfold Dr.renew
  split
  · exact Nat.le_refl _
  · rw [Dr.put_len, grow_len]; omega
theorem renew_at {D : Dr} {p q : Place} {lv : Nat} (h : p ≠ q) (hq : D.Has q) : (D.renew p lv).at q = D.at q := by
  unfold Dr.renew
  split
  · rfl
  · rw [Dr.at_put_other h, grow_at q (fun e => by
      obtain ⟨o, d⟩ := q
      simp only at e; subst e
      have := hq.1; omega)]
theorem grow_has {D : Dr} {x : Int} {lv : Nat} {q : Place} (h : D.Has q) : (D.grow x lv).Has q := by
  obtain ⟨o, d⟩ := q
  cases o with
  | none => exact h
  | some i => exact ⟨by rw [grow_len]; have := h.1; omega, by rw [grow_old i h.1]; exact h.2⟩
theorem grow_lvl {D : Dr} {x : Int} {lv : Nat} {q : Place} (h : D.Has q) : (D.grow x lv).lvl q = D.lvl q := by
  obtain ⟨o, d⟩ := q
  cases o with
  | none => rfl
  | some i => simp only [Dr.lvl]; rw [grow_old i h.1]
theorem renew_has {D : Dr} {p q : Place} {lv : Nat} (h : D.Has q) : (D.renew p lv).Has q ∧ (D.renew p lv).lvl q = D.lvl q := by
  unfold Dr.renew
  split
  · exact ⟨h, rfl⟩
  · exact ⟨Dr.put_has.2 (grow_has h), by rw [Dr.put_lvl, grow_lvl h]⟩
theorem renew_kid {D : Dr} {p : Place} {lv : Nat} (h : D.Has p) : ((D.renew p lv).at p).k = some ((D.renew p lv).kidAt p) := by
  have : ∃ k, ((D.renew p lv).at p).k = some k := by
    unfold Dr.renew
    split
    · rename_i k hk; exact ⟨k, hk⟩
    · exact ⟨_, by rw [Dr.at_put_same (grow_has h)]⟩
  obtain ⟨k, hk⟩ := this
  simp [Dr.kidAt, hk]
theorem way_renew {D : Dr} {p : Place} {lv : Nat} : ∀ (r : List Place) (l : Nat), Way D l r → (∀ q, q ∈ r → q ≠ p) → Way (D.renew p lv) l r := by
  intro r
  induction r with
  | nil => intro l h _; exact h
  | cons q r ih =>
    intro l h hn
    cases r with
    | nil => exact ⟨(renew_has h.1).1, by rw [(renew_has h.1).2]; exact h.2.1, h.2.2⟩
    | cons q2 r =>
      obtain ⟨h1, h2, h3, h4, h5, h6⟩ := h
      have hq2 : D.Has q2 := by cases r with
        | nil => exact h6.1
        | cons _ _ => exact h6.1
      exact ⟨(renew_has h1).1, by rw [(renew_has h1).2]; exact h2, by rw [renew_at (fun e => hn q2 (by simp) e.symm) hq2]; exact h3, h4, h5, ih (l - 1) h6 (fun u hu => hn u (by simp [hu]))⟩
theorem way_lvl {D : Dr} : ∀ (r : List Place) (l : Nat), Way D l r → ∀ q, q ∈ r → D.Has q ∧ D.lvl q ≤ l := by
  intro r
  induction r with
  | nil => intro l h; exact h.elim
  | cons p r ih =>
    intro l h q hq
    cases r with
    | nil => simp at hq; subst hq; exact ⟨h.1, Nat.le_of_eq h.2.1⟩
    | cons q2 r =>
      obtain ⟨h1, h2, h3, h4, h5, h6⟩ := h
      rcases List.mem_cons.1 hq with rfl | hq
      · exact ⟨h1, Nat.le_of_eq h2⟩
      · have := ih (l - 1) h6 q hq
        exact ⟨this.1, by omega⟩
structure Down (D0 : Dr) (n tree : Nat) (key : Int) (i : Nat) (D : Dr) (ps : List Place) : Prop where
  wf : Wf D (n + i)
  len : ps.length = i + 1
  way : Way D i ps
theorem down_zero {D : Dr} {n tree : Nat} {key : Int} (h : Wf D n) (ht : tree < 3) : Down D n tree key 0 D [(none, tree)] :=
  ⟨h, rfl, ⟨by show tree < D.tops.length; rw [h.three]; exact ht, rfl, rfl⟩⟩
theorem down_step {D0 D : Dr} {n tree : Nat} {key : Int} {i : Nat} {p : Place} {r : List Place} (h : Down D0 n tree key i D (p :: r)) (hi : i ≤ 3) :
    Down D0 n tree key (i + 1) (D.renew p i) ((some ((D.renew p i).kidAt p), dig key i) :: p :: r) := by
  have hp : D.Has p ∧ D.lvl p = i := by
    have := h.way
    cases r with
    | nil => exact ⟨this.1, this.2.1⟩
    | cons _ _ => exact ⟨this.1, this.2.1⟩
  have hwf := renew_wf h.wf hp.1 hp.2 hi
  have hk := renew_kid (lv := i) hp.1
  obtain ⟨k1, k2, k3⟩ := hwf.kid p _ hk
  refine ⟨hwf, by simp [h.len], ?_, ?_, hk, rfl, by omega, ?_⟩
  · exact ⟨k1, by rw [(hwf.four _ k1).1]; exact dig_lt _ _⟩
  · show (Dr.node _ _).lv + 1 = i + 1
    rw [k3, (renew_has hp.1).2, hp.2]
  · show Way (D.renew p i) (i + 1 - 1) (p :: r)
    rw [Nat.add_sub_cancel]
    have hw := h.way
    cases r with
    | nil => exact ⟨(renew_has hp.1).1, by rw [(renew_has hp.1).2]; exact hp.2, hw.2.2⟩
    | cons q r =>
      obtain ⟨h1, h2, h3, h4, h5, h6⟩ := hw
      have hl := way_lvl (q :: r) (i - 1) h6
      have hne : ∀ u, u ∈ q :: r → u ≠ p := fun u hu e => by
        subst e
        have := (hl u hu).2
        omega
      exact ⟨(renew_has h1).1, by rw [(renew_has h1).2]; exact h2, by rw [renew_at (fun e => hne q (by simp) e.symm) (hl q (by simp)).1]; exact h3, h4, h5, way_renew (q :: r) (i - 1) h6 hne⟩
theorem downTo_is {D : Dr} {n tree : Nat} {key : Int} (h : Wf D n) (ht : tree < 3) : ∀ i, i ≤ 4 → Down D n tree key i (D.downTo tree key i).1 (D.downTo tree key i).2 := by
  intro i
  induction i with
  | zero => intro _; exact down_zero h ht
  | succ i ih =>
    intro hi
    have hd := ih (by omega)
    simp only [Dr.downTo]
    obtain ⟨p, r, hpr⟩ : ∃ p r, (D.downTo tree key i).2 = p :: r := by
      have := hd.len
      cases hv : (D.downTo tree key i).2 with
      | nil => rw [hv] at this; cases this
      | cons p r => exact ⟨p, r, rfl⟩
    rw [hpr] at hd ⊢
    simp only [List.headD_cons]
    exact down_step hd (by omega)
/-- Nothing is led to from the level 4. -/
theorem last_kid {D : Dr} {n : Nat} (h : Wf D n) {p : Place} (hl : D.lvl p = 4) : (D.at p).k = none := by
  cases hk : (D.at p).k with
  | none => rfl
  | some k =>
    obtain ⟨k1, k2, k3⟩ := h.kid p k hk
    have := (h.four k k1).2
    omega
end Drf
end Go.Proofs.YtjginajnegahdaaDoor
