/- What an operation upon a new draft leaves of the trees that it doesn't touch. No program is spoken of here. -/
import Derived.Test.YtjginajnegahdaaDoorDraftFirst2
set_option linter.unusedVariables false
set_option linter.unusedSimpArgs false
namespace Go.Proofs.YtjginajnegahdaaDoor
namespace Drf

theorem renew_top {D : Dr} {p : Place} {lv t : Nat} (h : p ≠ (none, t)) : (D.renew p lv).at (none, t) = D.at (none, t) := by
  unfold Dr.renew
  split
  · rfl
  · rw [Dr.at_put_other h, grow_at _ (by simp)]
theorem prune_top {D : Dr} {p : Place} {t : Nat} (h : p ≠ (none, t)) : (D.prune p).at (none, t) = D.at (none, t) := by
  unfold Dr.prune
  split
  · rw [lose_at, Dr.at_put_other h]
  · rfl
theorem downTo_top {D : Dr} {tree t : Nat} {key : Int} (h : tree ≠ t) : ∀ i, (D.downTo tree key i).1.at (none, t) = D.at (none, t) ∧ (∀ p, p ∈ (D.downTo tree key i).2 → p ≠ (none, t)) ∧ (D.downTo tree key i).2 ≠ [] := by
  intro i
  induction i with
  | zero => exact ⟨rfl, fun p hp => by simp [Dr.downTo] at hp; subst hp; intro e; cases e; exact h rfl, by simp [Dr.downTo]⟩
  | succ i ih =>
    obtain ⟨h1, h2, h3⟩ := ih
    have hq : (D.downTo tree key i).2.headD (none, tree) ≠ (none, t) := by
      cases hv : (D.downTo tree key i).2 with
      | nil => exact absurd hv h3
      | cons q r => rw [hv] at h2; exact h2 q (by simp)
    simp only [Dr.downTo]
    refine ⟨(renew_top hq).trans h1, fun p hp => ?_, by simp⟩
    rcases List.mem_cons.1 hp with rfl | hp
    · simp
    · exact h2 p hp
theorem cut_top {t : Nat} : ∀ (r : List Place) (D : Dr), (∀ p, p ∈ r → p ≠ (none, t)) → (D.cut r).at (none, t) = D.at (none, t) := by
  intro r
  induction r with
  | nil => intro D _; rfl
  | cons p r ih =>
    intro D h
    exact (ih (D.prune p) fun q hq => h q (by simp [hq])).trans (prune_top (h p (by simp)))
theorem write_top {D : Dr} {tree t : Nat} {key x : Int} (h : tree ≠ t) : (D.write tree key x).at (none, t) = D.at (none, t) := by
  obtain ⟨h1, h2, h3⟩ := downTo_top (D := D) (key := key) h 4
  unfold Dr.write
  have hq : (D.downTo tree key 4).2.headD (none, tree) ≠ (none, t) := by
    cases hv : (D.downTo tree key 4).2 with
    | nil => exact absurd hv h3
    | cons q r => rw [hv] at h2; exact h2 q (by simp)
  rw [cut_top _ _ fun p hp => h2 p (List.mem_of_mem_tail hp), Dr.at_put_other hq, h1]
theorem replace_top {D : Dr} {tree t : Nat} {key was now : Int} (h : tree ≠ t) : (D.replace tree key was now).at (none, t) = D.at (none, t) := by
  unfold Dr.replace; split
  · rfl
  · exact write_top h
theorem replace_len {D : Dr} {tree t : Nat} {key was now : Int} : (D.replace tree key was now).len t = D.len t ∧ (D.replace tree key was now).front = D.front := by
  unfold Dr.replace; split
  · exact ⟨rfl, rfl⟩
  · exact ⟨by simp only [Dr.len, write_lens.1], write_lens.2.1⟩
theorem setLen_other {D : Dr} {t t' : Nat} {z : Int} (h : t ≠ t') : (D.setLen t z).len t' = D.len t' := by
  simp only [Dr.len, Dr.setLen, List.getD_eq_getElem?_getD, List.getElem?_set_ne h]
theorem setLen_at {D : Dr} {t : Nat} {z : Int} (p : Place) : (D.setLen t z).at p = D.at p := by
  obtain ⟨o, d⟩ := p
  cases o <;> rfl
theorem setLen_same {D : Dr} {t : Nat} : D.setLen t (D.len t) = D := by
  unfold Dr.setLen Dr.len
  have : D.lens.set t (D.lens.getD t 0) = D.lens := by
    apply List.ext_getElem?
    intro i
    rw [List.getElem?_set]
    split
    · rename_i e
      subst e
      split
      · rename_i hl
        rw [List.getD_eq_getElem?_getD, List.getElem?_eq_getElem hl]; rfl
      · rename_i hl
        rw [List.getElem?_eq_none (by omega)]
    · rfl
  rw [this]
/-- What stays of a tree: its top, its count. -/
def Keeps (D D' : Dr) (t : Nat) : Prop := D'.at (none, t) = D.at (none, t) ∧ D'.len t = D.len t
theorem atKey_keeps {D : Dr} {tree t : Nat} {c k a b : Int} (h : tree ≠ t) : Keeps D (D.atKey tree c k a b).1 t ∧ (D.atKey tree c k a b).1.front = D.front := by
  unfold Dr.atKey
  split
  · exact ⟨⟨rfl, rfl⟩, rfl⟩
  · exact ⟨⟨(setLen_at _).trans (replace_top h), (setLen_other h).trans replace_len.1⟩, (replace_len (t := t)).2⟩
theorem enqueue_keeps {D : Dr} {t : Nat} {a : Int} (h : 1 ≠ t) : Keeps D (D.enqueue a).1 t := by
  unfold Dr.enqueue
  split
  · exact ⟨rfl, rfl⟩
  · split
    · exact ⟨rfl, rfl⟩
    · exact ⟨(setLen_at _).trans (replace_top h), (setLen_other h).trans replace_len.1⟩
theorem dequeue_keeps {D : Dr} {t : Nat} (h : 1 ≠ t) : Keeps D D.dequeue.1 t := by
  unfold Dr.dequeue
  split
  · exact ⟨rfl, rfl⟩
  · split
    · exact ⟨rfl, rfl⟩
    · refine ⟨?_, ?_⟩
      · show (({ (D.replace 1 D.front (D.find 1 D.front).1 0).setLen 1 (D.len 1 - 1) with front := (D.front + 1) % 256 } : Dr)).at (none, t) = _
        exact (setLen_at (D := D.replace 1 D.front (D.find 1 D.front).1 0) (t := 1) (z := D.len 1 - 1) (none, t)).trans (replace_top h)
      · exact (setLen_other h).trans replace_len.1
/-- An operation that needs a node has done nothing. -/
theorem apply_need {D : Dr} {r : Bool} {c k a b : Int} (h : (D.apply r c k a b).2.2 ≠ 0) : (D.apply r c k a b).1 = D := by
  unfold Dr.apply at h ⊢
  split
  · rfl
  · rename_i h1
    rw [if_neg h1] at h
    split
    · rename_i h2
      rw [if_pos h2] at h
      unfold Dr.enqueue at h ⊢
      split
      · rfl
      · rename_i h3
        rw [if_neg h3] at h
        split
        · rfl
        · rename_i h4
          rw [if_neg h4] at h
          exact absurd rfl h
    · rename_i h2
      rw [if_neg h2] at h
      split
      · rename_i h3
        rw [if_pos h3] at h
        unfold Dr.dequeue at h ⊢
        split
        · rfl
        · rename_i h4
          rw [if_neg h4] at h
          split
          · rfl
          · rename_i h5
            rw [if_neg h5] at h
            exact absurd rfl h
      · rename_i h3
        rw [if_neg h3] at h
        have hk : ∀ t, (D.atKey t c k a b).2.2 ≠ 0 → (D.atKey t c k a b).1 = D := fun t ht => by
          unfold Dr.atKey at ht ⊢
          split
          · rfl
          · rename_i h4
            rw [if_neg h4] at ht
            exact absurd rfl ht
        split
        · rfl
        · split
          · rfl
          · split
            · rfl
            · rename_i h4 h5 h6
              rw [if_neg h4, if_neg h5, if_neg h6] at h
              split
              · rename_i h7
                rw [if_pos h7] at h
                exact hk 0 h
              · rename_i h7
                rw [if_neg h7] at h
                split
                · rename_i h8
                  rw [if_pos h8] at h
                  exact hk 2 h
                · rfl
/-- Asking alone, of a flat draft, changes nothing. -/
theorem ask_same {D : Dr} (hf : Flat D) {t : Nat} (ht : t < 3) {c k a b : Int} (hc : c ≠ 5 ∧ c ≠ 10) : (D.atKey t c k a b).1 = D := by
  rcases hf.find ht with ⟨h0, hn⟩ | ⟨y, hy, hn⟩
  · unfold Dr.atKey
    rw [hn k, if_neg (by simp)]
    have hd : does c a b 0 = ((1, 0), 0) := by unfold does; rw [if_pos rfl, if_neg (by omega)]
    simp only [hd]
    rw [show D.replace t k 0 0 = D by unfold Dr.replace; rw [if_pos rfl]]
    rw [show D.len t + (cnt 0 - cnt 0) = D.len t by omega]
    exact setLen_same
  · unfold Dr.atKey
    rw [hn k, if_pos (by exact hy)]
theorem new_next {m ml q fr ql s sl : Int} : (Dr.new m ml q fr ql s sl).nextV = .tuple #[.agg #[.int .u64 0, .int .u64 0, .int .u64 0, .int .u64 0], .bool false] := by
  have : (Dr.new m ml q fr ql s sl).next = none := by simp [Dr.next, Dr.order, Dr.row, rowOf, Dr.new]
  unfold Dr.nextV
  rw [this]
  rfl
theorem keeps_refl (D : Dr) (t : Nat) : Keeps D D t := ⟨rfl, rfl⟩
theorem apply_keeps0 {D : Dr} {r : Bool} {c k a b : Int} (hc : c < 4 ∨ 9 < c) : Keeps D (D.apply r c k a b).1 0 := by
  unfold Dr.apply
  split
  · exact keeps_refl D 0
  · split
    · exact enqueue_keeps (by omega)
    · split
      · exact dequeue_keeps (by omega)
      · split
        · exact keeps_refl D 0
        · split
          · exact keeps_refl D 0
          · split
            · exact keeps_refl D 0
            · split
              · omega
              · split
                · exact (atKey_keeps (by omega)).1
                · exact keeps_refl D 0
theorem apply_keeps1 {D : Dr} {r : Bool} {c k a b : Int} (hc : 3 < c ∨ c < 1) : Keeps D (D.apply r c k a b).1 1 ∧ (D.apply r c k a b).1.front = D.front := by
  unfold Dr.apply
  split
  · exact ⟨keeps_refl D 1, rfl⟩
  · split
    · omega
    · split
      · omega
      · split
        · exact ⟨keeps_refl D 1, rfl⟩
        · split
          · exact ⟨keeps_refl D 1, rfl⟩
          · split
            · exact ⟨keeps_refl D 1, rfl⟩
            · split
              · exact atKey_keeps (by omega)
              · split
                · exact atKey_keeps (by omega)
                · exact ⟨keeps_refl D 1, rfl⟩
theorem apply_keeps2 {D : Dr} {r : Bool} {c k a b : Int} (hc : c < 10) : Keeps D (D.apply r c k a b).1 2 := by
  unfold Dr.apply
  split
  · exact keeps_refl D 2
  · split
    · exact enqueue_keeps (by omega)
    · split
      · exact dequeue_keeps (by omega)
      · split
        · exact keeps_refl D 2
        · split
          · exact keeps_refl D 2
          · split
            · exact keeps_refl D 2
            · split
              · exact (atKey_keeps (by omega)).1
              · split
                · omega
                · exact keeps_refl D 2
theorem apply_ask {D : Dr} (hf : Flat D) {r : Bool} {c k a b : Int} (hc : c = 0 ∨ c = 3 ∨ c = 4 ∨ c = 8 ∨ c = 9 ∨ c = 13) : (D.apply r c k a b).1 = D := by
  unfold Dr.apply
  split
  · rfl
  · split
    · omega
    · split
      · omega
      · split
        · rfl
        · split
          · rfl
          · split
            · rfl
            · split
              · exact ask_same hf (by omega) (by omega)
              · split
                · exact ask_same hf (by omega) (by omega)
                · rfl
end Drf
end Go.Proofs.YtjginajnegahdaaDoor
