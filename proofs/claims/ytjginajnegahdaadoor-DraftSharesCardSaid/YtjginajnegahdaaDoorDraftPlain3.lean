/- A draft, plainly: the operations, what is to be laid. No program is spoken of here. -/
import Derived.Test.YtjginajnegahdaaDoorDraftPlain2
set_option linter.unusedVariables false
set_option linter.unusedSimpArgs false
namespace Go.Proofs.YtjginajnegahdaaDoor
namespace Drf

abbrev Rs := Int × Int
/-- What an operation upon a key that has a word is answered, and the word then. -/
def does (c a b w : Int) : Rs × Int :=
  if w = 0 then ((1, 0), if c = 5 ∨ c = 10 then a + 1 else 0)
  else if c = 5 ∨ c = 10 then ((0, w - 1), a + 1)
  else if c = 6 ∨ c = 14 then ((0, w - 1), 0)
  else if c = 7 then (if w - 1 = a then ((0, w - 1), b + 1) else ((4, w - 1), w))
  else if c = 11 then (if w = 1 then ((3, 0), w) else ((0, w - 2), w - 1))
  else if c = 12 then (if w = 1024 then ((2, 0), w) else ((0, w), w + 1))
  else ((0, w - 1), w)
def cnt (w : Int) : Int := if w = 0 then 0 else 1
def Dr.replace (D : Dr) (tree : Nat) (key was now : Int) : Dr := if was = now then D else D.write tree key now
def Dr.len (D : Dr) (tree : Nat) : Int := D.lens.getD tree 0
def Dr.setLen (D : Dr) (tree : Nat) (x : Int) : Dr := { D with lens := D.lens.set tree x }
def Dr.atKey (D : Dr) (tree : Nat) (c k a b : Int) : Dr × Rs × Int :=
  if (D.find tree k).2 ≠ 0 then (D, (0, 0), (D.find tree k).2)
  else ((D.replace tree k (D.find tree k).1 (does c a b (D.find tree k).1).2).setLen tree (D.len tree + (cnt (does c a b (D.find tree k).1).2 - cnt (D.find tree k).1)), (does c a b (D.find tree k).1).1, 0)
def Dr.enqueue (D : Dr) (a : Int) : Dr × Rs × Int :=
  if D.len 1 = 256 then (D, (2, 0), 0)
  else if (D.find 1 ((D.front + D.len 1) % 256)).2 ≠ 0 then (D, (0, 0), (D.find 1 ((D.front + D.len 1) % 256)).2)
  else ((D.replace 1 ((D.front + D.len 1) % 256) (D.find 1 ((D.front + D.len 1) % 256)).1 (a + 1)).setLen 1 (D.len 1 + 1), (0, D.len 1 + 1), 0)
def Dr.dequeue (D : Dr) : Dr × Rs × Int :=
  if D.len 1 = 0 then (D, (1, 0), 0)
  else if (D.find 1 D.front).2 ≠ 0 then (D, (0, 0), (D.find 1 D.front).2)
  else ({ (D.replace 1 D.front (D.find 1 D.front).1 0).setLen 1 (D.len 1 - 1) with front := (D.front + 1) % 256 }, (0, (D.find 1 D.front).1 - 1), 0)
/-- The floor of a key below n. -/
def Dr.floorAt (D : Dr) : Nat → Rs × Int
  | 0 => ((1, 0), 0)
  | i + 1 => if (D.find 0 i).2 ≠ 0 then ((0, 0), (D.find 0 i).2) else if (D.find 0 i).1 ≠ 0 then ((0, i * 1024 + ((D.find 0 i).1 - 1)), 0) else D.floorAt i
def Dr.apply (D : Dr) (right : Bool) (c k a b : Int) : Dr × Rs × Int :=
  if right = false then (D, (1, 0), 0)
  else if c = 1 then D.enqueue a
  else if c = 2 then D.dequeue
  else if c = 3 then (D, (0, D.len 1), 0)
  else if c = 8 then (D, (0, D.len 0), 0)
  else if c = 9 then (D, D.floorAt (k + 1).toNat)
  else if 4 ≤ c ∧ c ≤ 7 then D.atKey 0 c k a b
  else if 10 ≤ c ∧ c ≤ 14 then D.atKey 2 c k a b
  else (D, (1, 0), 0)
def Dr.order (D : Dr) : List Nat := D.row 3 ++ (D.row 2 ++ (D.row 1 ++ D.row 0))
def Dr.next (D : Dr) : Option Nat := D.order.find? fun i => (D.node i).h.isNone
def Dr.told (D : Dr) (x : Ln) : Int :=
  match x.k with
  | some k => ((D.node k).h).getD 0
  | none => x.w
def Dr.laid (D : Dr) (h : Int) : Dr :=
  match D.next with
  | none => D
  | some i => { D with made := D.made.modify i fun n => { n with h := some h } }
def Dr.new (m ml q fr ql s sl : Int) : Dr := ⟨fun _ => none, [⟨m, none⟩, ⟨q, none⟩, ⟨s, none⟩], [ml, ql, sl], fr, [], []⟩
theorem new_wf {m ml q fr ql s sl : Int} (h0 : W64 m) (h1 : W64 q) (h2 : W64 s) : Wf (Dr.new m ml q fr ql s sl) 0 := by
  have hat : ∀ p, ((Dr.new m ml q fr ql s sl).at p).k = none ∧ W64 ((Dr.new m ml q fr ql s sl).at p).w := fun p => by
    obtain ⟨o, d⟩ := p
    cases o with
    | none =>
      simp only [Dr.at, Dr.new]
      match d with
      | 0 => exact ⟨rfl, h0⟩
      | 1 => exact ⟨rfl, h1⟩
      | 2 => exact ⟨rfl, h2⟩
      | d + 3 => exact ⟨rfl, by show W64 0; exact ⟨by decide, by decide⟩⟩
    | some i => exact ⟨by simp [Dr.at, Dr.new, Dr.node, nd0, ln0], by simp [Dr.at, Dr.new, Dr.node, nd0, ln0, W64]⟩
  refine ⟨rfl, fun i hi => by simp [Dr.new] at hi, fun p k hk => ?_, fun p q k hp _ => ?_, fun p => (hat p).2, fun h l e => by simp [Dr.new] at e, by simp [Dr.new], by simp [Dr.new], fun x hx => by simp [Dr.new] at hx, rfl⟩
  · rw [(hat p).1] at hk; cases hk
  · rw [(hat p).1] at hp; cases hp

/-! ### what writing keeps -/
theorem way_cons {D : Dr} {lv : Nat} {p : Place} {r : List Place} (h : Way D lv (p :: r)) : D.Has p ∧ D.lvl p = lv := by
  cases r with
  | nil => exact ⟨h.1, h.2.1⟩
  | cons _ _ => exact ⟨h.1, h.2.1⟩
/-- A change of a link that no node hangs on, below a way. -/
theorem way_put {D : Dr} {p : Place} {x : Ln} : ∀ (r : List Place) (l : Nat), Way D l r → (∀ q, q ∈ r → q ≠ p) → Way (D.put p x) l r := by
  intro r
  induction r with
  | nil => intro l h _; exact h
  | cons q r ih =>
    intro l h hn
    cases r with
    | nil => exact ⟨Dr.put_has.2 h.1, by rw [Dr.put_lvl]; exact h.2.1, h.2.2⟩
    | cons q2 r =>
      obtain ⟨h1, h2, h3, h4, h5, h6⟩ := h
      exact ⟨Dr.put_has.2 h1, by rw [Dr.put_lvl]; exact h2, by rw [Dr.at_put_other (fun e => hn q2 (by simp) e.symm)]; exact h3, h4, h5, ih (l - 1) h6 (fun u hu => hn u (by simp [hu]))⟩
theorem way_lose {D : Dr} {k : Nat} : ∀ (r : List Place) (l : Nat), Way D l r → Way (D.lose k) l r := by
  intro r
  induction r with
  | nil => intro l h; exact h
  | cons q r ih =>
    intro l h
    cases r with
    | nil => exact ⟨(lose_has q).2 h.1, by rw [lose_lvl]; exact h.2.1, h.2.2⟩
    | cons q2 r =>
      obtain ⟨h1, h2, h3, h4, h5, h6⟩ := h
      exact ⟨(lose_has q).2 h1, by rw [lose_lvl]; exact h2, by rw [lose_at]; exact h3, h4, h5, ih (l - 1) h6⟩
theorem way_ne {D : Dr} {l : Nat} {p q : Place} {r : List Place} (h : Way D l (p :: q :: r)) : ∀ u, u ∈ q :: r → u ≠ p := fun u hu e => by
  obtain ⟨h1, h2, h3, h4, h5, h6⟩ := h
  have := (way_lvl (q :: r) (l - 1) h6 u hu).2
  subst e; omega
/-- The way above a link, behind the link's pruning. -/
theorem way_up {D : Dr} {l : Nat} {p q : Place} {r : List Place} (h : Way D l (p :: q :: r)) : Way (D.prune p) (l - 1) (q :: r) := by
  have hn := way_ne h
  obtain ⟨h1, h2, h3, h4, h5, h6⟩ := h
  unfold Dr.prune
  split
  · exact way_lose (q :: r) (l - 1) (way_put (q :: r) (l - 1) h6 hn)
  · exact h6
theorem way_up_put {D : Dr} {l : Nat} {p q : Place} {r : List Place} {x : Ln} (h : Way D l (p :: q :: r)) : Way (D.put p x) (l - 1) (q :: r) := by
  have hn := way_ne h
  obtain ⟨h1, h2, h3, h4, h5, h6⟩ := h
  exact way_put (q :: r) (l - 1) h6 hn
/-- What a way's second link leads to is the node in which the first one stands. -/
theorem way_kid {D : Dr} {l : Nat} {p q : Place} {r : List Place} (h : Way D l (p :: q :: r)) : ∃ k, (D.at q).k = some k ∧ p.1 = some k := by
  obtain ⟨h1, h2, h3, h4, h5, h6⟩ := h
  obtain ⟨k, hk⟩ := Option.isSome_iff_exists.1 h4
  exact ⟨k, by rw [h3, hk], hk⟩
theorem put_lens_is {D : Dr} {p : Place} {x : Ln} : (D.put p x).lens = D.lens := Dr.put_lens
theorem renew_lens {D : Dr} {p : Place} {lv : Nat} : (D.renew p lv).lens = D.lens ∧ (D.renew p lv).front = D.front ∧ (D.renew p lv).know = D.know := by
  unfold Dr.renew
  split
  · exact ⟨rfl, rfl, rfl⟩
  · exact ⟨by rw [Dr.put_lens]; rfl, by rw [Dr.put_front]; rfl, by rw [Dr.put_know]; rfl⟩
theorem prune_lens {D : Dr} {p : Place} : (D.prune p).lens = D.lens ∧ (D.prune p).front = D.front ∧ (D.prune p).know = D.know := by
  unfold Dr.prune
  split
  · exact ⟨by show (D.put p ln0).lens = _; rw [Dr.put_lens], by show (D.put p ln0).front = _; rw [Dr.put_front], by show (D.put p ln0).know = _; rw [Dr.put_know]⟩
  · exact ⟨rfl, rfl, rfl⟩
theorem downTo_lens {D : Dr} {tree : Nat} {key : Int} : ∀ i, (D.downTo tree key i).1.lens = D.lens ∧ (D.downTo tree key i).1.front = D.front ∧ (D.downTo tree key i).1.know = D.know := by
  intro i
  induction i with
  | zero => exact ⟨rfl, rfl, rfl⟩
  | succ i ih =>
    simp only [Dr.downTo]
    have h := renew_lens (D := (D.downTo tree key i).1) (p := (D.downTo tree key i).2.headD (none, tree)) (lv := i)
    exact ⟨h.1.trans ih.1, h.2.1.trans ih.2.1, h.2.2.trans ih.2.2⟩
theorem cut_lens : ∀ (r : List Place) (D : Dr), (D.cut r).lens = D.lens ∧ (D.cut r).front = D.front ∧ (D.cut r).know = D.know := by
  intro r
  induction r with
  | nil => intro D; exact ⟨rfl, rfl, rfl⟩
  | cons p r ih =>
    intro D
    have h := ih (D.prune p)
    have k := prune_lens (D := D) (p := p)
    exact ⟨h.1.trans k.1, h.2.1.trans k.2.1, h.2.2.trans k.2.2⟩
theorem write_lens {D : Dr} {tree : Nat} {key x : Int} : (D.write tree key x).lens = D.lens ∧ (D.write tree key x).front = D.front ∧ (D.write tree key x).know = D.know := by
  unfold Dr.write
  have h := cut_lens (D.downTo tree key 4).2.tail ((D.downTo tree key 4).1.put ((D.downTo tree key 4).2.headD (none, tree)) ⟨x, none⟩)
  have k := downTo_lens (D := D) (tree := tree) (key := key) 4
  rw [Dr.put_lens, Dr.put_front, Dr.put_know] at h
  exact ⟨h.1.trans k.1, h.2.1.trans k.2.1, h.2.2.trans k.2.2⟩
end Drf
end Go.Proofs.YtjginajnegahdaaDoor
