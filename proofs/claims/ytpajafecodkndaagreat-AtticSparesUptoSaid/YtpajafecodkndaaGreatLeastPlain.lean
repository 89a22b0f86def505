/- Heaps of numbers in a list, plainly: no program is spoken of here. -/
import Derived.WalkKit
set_option linter.unusedVariables false
set_option linter.unusedSimpArgs false
namespace Go.Proofs.YtpajafecodkndaaGreat
namespace Hp

/-- The i-th number (0 beyond the end). -/
def at_ (l : List Nat) (i : Nat) : Nat := l.getD i 0
def swp (l : List Nat) (i j : Nat) : List Nat := (l.set i (at_ l j)).set j (at_ l i)
/-- Below n each number is no less than its parent's. -/
def Heap (l : List Nat) (n : Nat) : Prop := ∀ k, 0 < k → k < n → at_ l ((k - 1) / 2) ≤ at_ l k
/-- .. but for that at j, whose parent is no greater than its children. -/
def UpOk (l : List Nat) (n j : Nat) : Prop :=
  (∀ k, 0 < k → k < n → k ≠ j → at_ l ((k - 1) / 2) ≤ at_ l k) ∧ (0 < j → ∀ k, 0 < k → k < n → (k - 1) / 2 = j → at_ l ((j - 1) / 2) ≤ at_ l k)
/-- .. but for the children of i, which are no less than i's parent. -/
def DownOk (l : List Nat) (n i : Nat) : Prop :=
  (∀ k, 0 < k → k < n → (k - 1) / 2 ≠ i → at_ l ((k - 1) / 2) ≤ at_ l k) ∧ (0 < i → ∀ k, 0 < k → k < n → (k - 1) / 2 = i → at_ l ((i - 1) / 2) ≤ at_ l k)

theorem length_swp (l : List Nat) (i j : Nat) : (swp l i j).length = l.length := by simp [swp]
theorem at_swp (l : List Nat) (i j k : Nat) (hi : i < l.length) (hj : j < l.length) : at_ (swp l i j) k = if k = j then at_ l i else if k = i then at_ l j else at_ l k := by
  unfold swp at_
  simp only [List.getD_eq_getElem?_getD, List.getElem?_set, List.length_set]
  by_cases h1 : j = k
  · subst h1; simp [hj]
  · by_cases h2 : i = k
    · subst h2; simp [h1, hi, Ne.symm h1]
    · simp [h1, h2, Ne.symm h1, Ne.symm h2]
theorem perm_swp (l : List Nat) (i j : Nat) (hi : i < l.length) (hj : j < l.length) : (swp l i j).Perm l := by
  have := List.set_set_perm (as := l) hi hj
  unfold swp at_
  simpa [List.getD_eq_getElem?_getD, hi, hj] using this
theorem swp_self_ge (l : List Nat) (i j k : Nat) (hi : i < l.length) (hj : j < l.length) (h1 : k ≠ i) (h2 : k ≠ j) : at_ (swp l i j) k = at_ l k := by
  rw [at_swp l i j k hi hj, if_neg h2, if_neg h1]

theorem up_stop0 {l : List Nat} {n : Nat} (h : UpOk l n 0) : Heap l n := fun k h0 hk => h.1 k h0 hk (by omega)
theorem up_stop {l : List Nat} {n j : Nat} (h : UpOk l n j) (hle : at_ l ((j - 1) / 2) ≤ at_ l j) : Heap l n := fun k h0 hk => by
  by_cases e : k = j
  · subst e; exact hle
  · exact h.1 k h0 hk e
theorem up_go {l : List Nat} {j : Nat} (h : UpOk l l.length j) (hj : j < l.length) (h0 : 0 < j) (hlt : at_ l j < at_ l ((j - 1) / 2)) :
    UpOk (swp l ((j - 1) / 2) j) l.length ((j - 1) / 2) := by
  have hp : (j - 1) / 2 < l.length := by omega
  have hs := fun k => at_swp l ((j - 1) / 2) j k hp hj
  refine ⟨fun k k0 kn hne => ?_, fun hp0 k k0 kn hk => ?_⟩
  · rw [hs, hs]
    by_cases e1 : k = j
    · subst e1
      rw [if_neg (by omega), if_pos rfl, if_pos rfl]; omega
    · rw [if_neg e1, if_neg hne]
      by_cases e2 : (k - 1) / 2 = j
      · rw [if_pos e2]
        exact h.2 h0 k k0 kn e2
      · rw [if_neg e2]
        by_cases e3 : (k - 1) / 2 = (j - 1) / 2
        · rw [if_pos e3]
          have := h.1 k k0 kn e1
          rw [e3] at this
          omega
        · rw [if_neg e3]
          exact h.1 k k0 kn e1
  · rw [hs, hs]
    have e0 : ((j - 1) / 2 - 1) / 2 ≠ j := by omega
    have e0' : ((j - 1) / 2 - 1) / 2 ≠ (j - 1) / 2 := by omega
    rw [if_neg e0, if_neg e0']
    have hpp := h.1 ((j - 1) / 2) hp0 hp (by omega)
    by_cases e1 : k = j
    · subst e1; rw [if_pos rfl]; exact hpp
    · rw [if_neg e1, if_neg (by omega)]
      have h2 := h.1 k k0 kn e1
      rw [hk] at h2
      omega
theorem up_start {l : List Nat} {x : Nat} (h : Heap l l.length) : UpOk (l ++ [x]) (l ++ [x]).length l.length := by
  refine ⟨fun k k0 kn hne => ?_, fun h0 k k0 kn hk => ?_⟩
  · simp at kn
    have := h k k0 (by omega)
    unfold at_ at *
    simp only [List.getD_eq_getElem?_getD] at *
    rw [List.getElem?_append_left (by omega), List.getElem?_append_left (by omega)]
    exact this
  · simp at kn; omega

theorem down_stop {l : List Nat} {n i : Nat} (h : DownOk l n i) (hc : ∀ k, 0 < k → k < n → (k - 1) / 2 = i → at_ l i ≤ at_ l k) : Heap l n := fun k k0 kn => by
  by_cases e : (k - 1) / 2 = i
  · rw [e]; exact hc k k0 kn e
  · exact h.1 k k0 kn e
theorem down_go {l : List Nat} {n i j : Nat} (h : DownOk l n i) (hn : n ≤ l.length) (hj : j < n) (j0 : 0 < j) (hp : (j - 1) / 2 = i) (hlt : at_ l j < at_ l i) (hmin : ∀ k, 0 < k → k < n → (k - 1) / 2 = i → at_ l j ≤ at_ l k) :
    DownOk (swp l i j) n j := by
  have hi : i < l.length := by omega
  have hs := fun k => at_swp l i j k hi (by omega)
  refine ⟨fun k k0 kn hne => ?_, fun hp0 k k0 kn hk => ?_⟩
  · rw [hs, hs, if_neg hne]
    by_cases e1 : (k - 1) / 2 = i
    · rw [if_pos e1]
      by_cases e2 : k = j
      · rw [if_pos e2]; omega
      · rw [if_neg e2, if_neg (by omega)]
        exact hmin k k0 kn e1
    · rw [if_neg e1, if_neg (by omega)]
      by_cases e2 : k = i
      · rw [if_pos e2]
        subst e2
        exact h.2 (by omega) j j0 hj hp
      · rw [if_neg e2]
        exact h.1 k k0 kn e1
  · rw [hs, hs, if_neg (by omega), if_pos hp, if_neg (by omega), if_neg (by omega)]
    have := h.1 k k0 kn (by omega)
    rw [hk] at this
    exact this
theorem down_start {l : List Nat} (h : Heap l l.length) (n : Nat) (hl : l.length = n + 1) : DownOk (swp l 0 n) n 0 := by
  have hs := fun k => at_swp l 0 n k (by omega) (by omega)
  refine ⟨fun k k0 kn hne => ?_, fun h0 => absurd h0 (by omega)⟩
  rw [hs, hs, if_neg (by omega), if_neg hne, if_neg (by omega), if_neg (by omega)]
  exact h k k0 (by omega)
/-- The first is the least. -/
theorem root_le {l : List Nat} {n : Nat} (h : Heap l n) : ∀ k, k < n → at_ l 0 ≤ at_ l k := by
  intro k
  induction k using Nat.strongRecOn with
  | _ k ih =>
    intro hk
    by_cases e : k = 0
    · subst e; exact Nat.le_refl _
    · exact Nat.le_trans (ih ((k - 1) / 2) (by omega) (by omega)) (h k (by omega) hk)
theorem heap_take {l : List Nat} {n : Nat} (h : Heap l n) (hn : n ≤ l.length) : Heap (l.take n) (l.take n).length := by
  intro k k0 kn
  simp at kn
  have := h k k0 (by omega)
  unfold at_ at *
  simp only [List.getD_eq_getElem?_getD] at *
  rw [List.getElem?_take_of_lt (by omega), List.getElem?_take_of_lt (by omega)]
  exact this
theorem take_at (l : List Nat) (n : Nat) (hl : l.length = n + 1) : l = l.take n ++ [at_ l n] := by
  have h1 : n < l.length := by omega
  have h2 := List.take_succ_eq_append_getElem h1
  rw [List.take_of_length_le (by omega)] at h2
  have h3 : at_ l n = l[n] := by simp [at_, List.getD_eq_getElem?_getD, h1]
  rw [h3]; exact h2
theorem at_mem {l : List Nat} {i : Nat} (h : i < l.length) : at_ l i ∈ l := by
  simp [at_, List.getD_eq_getElem?_getD, h]
theorem mem_at {l : List Nat} {x : Nat} (h : x ∈ l) : ∃ i, i < l.length ∧ at_ l i = x := by
  obtain ⟨i, hi, e⟩ := List.getElem_of_mem h
  exact ⟨i, hi, by simp [at_, List.getD_eq_getElem?_getD, hi, e]⟩
end Hp
end Go.Proofs.YtpajafecodkndaaGreat
