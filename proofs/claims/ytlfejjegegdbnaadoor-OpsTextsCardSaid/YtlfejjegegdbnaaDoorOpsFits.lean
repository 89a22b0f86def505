/- Which of a table a text is, by its words: plain facts. No program is spoken of here. -/
import Derived.Test.YtlfejjegegdbnaaDoorOpsSplit
set_option linter.unusedVariables false
set_option linter.unusedSimpArgs false
namespace Go.Proofs.YtlfejjegegdbnaaDoor
namespace Ops
open Go.Lib

theorem digs_le (u : Nat) : ∀ k, u < 10 ^ (k + 1) → nDigits u ≤ k + 1 := by
  intro k
  induction k generalizing u with
  | zero => intro h; rw [nDigits_small (by simpa using h)]; exact Nat.le_refl _
  | succ k ih =>
    intro h
    by_cases h10 : u < 10
    · rw [nDigits_small h10]; omega
    · rw [nDigits_big h10]
      have := ih (u / 10) (by rw [Nat.pow_succ] at h; omega)
      omega
theorem num_itoa (n : Int) (h0 : 0 ≤ n) (h1 : n ≤ 999999999) : numOf (itoa n) = n := by
  have e := (itoa_val n h0 h1).2.2
  rw [e, num_dec _ (by rw [decDigits_length]; exact digs_le _ 8 (by omega))]
  omega

def Tab.a1 (T : Tab) (c : Nat) : Nat := if 0 < T.m0 c then 1 else 0
def Tab.a2 (T : Tab) (c : Nat) : Nat := T.a1 c + if 0 < T.m1 c then 1 else 0
def Tab.a3 (T : Tab) (c : Nat) : Nat := T.a2 c + if 0 < T.m2 c then 1 else 0
def Tab.cK (T : Tab) (c : Nat) (ns : List Int) : Int := if 0 < T.m0 c then ns.getD 0 0 else 0
def Tab.cA (T : Tab) (c : Nat) (ns : List Int) : Int := if 0 < T.m1 c then ns.getD (T.a1 c) 0 else 0
def Tab.cB (T : Tab) (c : Nat) (ns : List Int) : Int := if 0 < T.m2 c then ns.getD (T.a2 c) 0 else 0
/-- The numbers behind the name, and three noughts. -/
def numsOf (l : List UInt8) : List Int := (wordsOf l).tail.map numOf ++ [0, 0, 0]
def Tab.fits (T : Tab) (l : List UInt8) (c : Nat) : Bool := (T.nm c == (wordsOf l).headD []) && (T.a3 c == (wordsOf l).length - 1) && T.rightB c (T.cK c (numsOf l)) (T.cA c (numsOf l)) (T.cB c (numsOf l))

theorem seg_some (m x : Int) (h : 0 < m) : seg m x = 32 :: itoa x := by unfold seg; rw [if_pos h]
theorem seg_no (m x : Int) (h : ¬ 0 < m) : seg m x = [] := by unfold seg; rw [if_neg h]
theorem fits_text {T : Tab} {l : List UInt8} {c : Nat} (h : T.fits l c = true) : T.text c (T.cK c (numsOf l)) (T.cA c (numsOf l)) (T.cB c (numsOf l)) = l ∧ T.rightB c (T.cK c (numsOf l)) (T.cA c (numsOf l)) (T.cB c (numsOf l)) = true := by
  unfold Tab.fits at h
  simp only [Bool.and_eq_true, beq_iff_eq] at h
  obtain ⟨⟨h1, h2⟩, h3⟩ := h
  refine ⟨?_, h3⟩
  obtain ⟨n, hn, _, p0, p1, p2⟩ := right_parts h3
  obtain rfl : c = n := by omega
  have hj := join_words l
  have hw := words_len l
  have hT : T.text c (T.cK c (numsOf l)) (T.cA c (numsOf l)) (T.cB c (numsOf l)) = T.nm c ++ (seg (T.m0 c) (T.cK c (numsOf l)) ++ (seg (T.m1 c) (T.cA c (numsOf l)) ++ seg (T.m2 c) (T.cB c (numsOf l)))) := by
    unfold Tab.text txt
    rw [if_pos h3]
    simp [List.append_assoc]
  rw [hT]
  clear hT h3 hn
  conv => rhs; rw [← hj]
  clear hj
  revert hw h1 h2 p0 p1 p2
  unfold Tab.cK Tab.cA Tab.cB Tab.a3 Tab.a2 Tab.a1 numsOf
  generalize wordsOf l = ws
  generalize T.m0 c = m0
  generalize T.m1 c = m1
  generalize T.m2 c = m2
  generalize T.nm c = nm
  have nb := fun x h => (num_back x h).1
  by_cases g0 : 0 < m0 <;> by_cases g1 : 0 < m1 <;> by_cases g2 : 0 < m2 <;> simp only [g0, g1, g2, if_true, if_false] <;> intro h1 h2 p0 p1 p2 hw
  all_goals
    rcases ws with _ | ⟨w0, _ | ⟨x, _ | ⟨y, _ | ⟨z, _ | ⟨q, r⟩⟩⟩⟩⟩
    all_goals first | (exfalso; simp at hw; done) | (exfalso; simp at h2; done) | (exfalso; simp at h2; omega) | skip
    all_goals
      obtain rfl : nm = w0 := h1
      simp at p0 p1 p2
      simp [seg_some, seg_no, g0, g1, g2, joinB]
    all_goals (try rw [nb _ p0.1])
    all_goals (try rw [nb _ p1.1])
    all_goals (try rw [nb _ p2.1])
/-- Which words a text has. -/
theorem words_text {T : Tab} (G : T.Good) {c : Nat} {k a b : Int} (h : T.rightB c k a b = true) : wordsOf (T.text c k a b) = T.nm c :: ((if 0 < T.m0 c then [itoa k] else []) ++ ((if 0 < T.m1 c then [itoa a] else []) ++ (if 0 < T.m2 c then [itoa b] else []))) := by
  obtain ⟨n, hn, hl, p0, p1, p2⟩ := right_parts h
  obtain rfl : c = n := by omega
  obtain ⟨q0, q1, q2⟩ := G.most c hl
  have hT : T.text c k a b = T.nm c ++ (seg (T.m0 c) k ++ (seg (T.m1 c) a ++ seg (T.m2 c) b)) := by
    unfold Tab.text txt
    rw [if_pos h]
    simp [List.append_assoc]
  have n0 := (itoa_val k p0.1 (by omega)).2.1
  have n1 := (itoa_val a p1.1 (by omega)).2.1
  have n2 := (itoa_val b p2.1 (by omega)).2.1
  have nn := G.blank c hl
  rw [hT]
  by_cases g0 : 0 < T.m0 c <;> by_cases g1 : 0 < T.m1 c <;> by_cases g2 : 0 < T.m2 c <;> simp only [g0, g1, g2, if_true, if_false]
  all_goals
    refine Eq.trans ?_ (words_join _ (List.cons_ne_nil _ _) ?_)
    · simp [seg_some, seg_no, g0, g1, g2, joinB]
    · intro x hx
      simp at hx
      first
        | (subst hx; assumption)
        | (rcases hx with rfl | rfl <;> assumption)
        | (rcases hx with rfl | rfl | rfl <;> assumption)
        | (rcases hx with rfl | rfl | rfl | rfl <;> assumption)
theorem fits_parse {T : Tab} (G : T.Good) {l : List UInt8} {c : Nat} (h : T.fits l c = true) : T.parse l = some (c, T.cK c (numsOf l), T.cA c (numsOf l), T.cB c (numsOf l)) := by
  obtain ⟨h1, h2⟩ := fits_text h
  have := parse_text G h2
  rw [h1] at this
  exact this
theorem parse_fits {T : Tab} (G : T.Good) {l : List UInt8} {c : Nat} {k a b : Int} (h : T.parse l = some (c, k, a, b)) : T.fits l c = true := by
  obtain ⟨hr, ht, hc⟩ := parse_some G h
  have hw := words_text G hr
  rw [ht] at hw
  obtain ⟨n, hn, hl, p0, p1, p2⟩ := right_parts hr
  obtain rfl : c = n := by omega
  obtain ⟨q0, q1, q2⟩ := G.most c hl
  have e0 := num_itoa k p0.1 (by omega)
  have e1 := num_itoa a p1.1 (by omega)
  have e2 := num_itoa b p2.1 (by omega)
  unfold Tab.fits Tab.cK Tab.cA Tab.cB Tab.a3 Tab.a2 Tab.a1 numsOf
  rw [hw]
  by_cases g0 : 0 < T.m0 c <;> by_cases g1 : 0 < T.m1 c <;> by_cases g2 : 0 < T.m2 c <;> simp only [g0, g1, g2, if_true, if_false] <;> simp [e0, e1, e2]
  · exact hr
  · rw [show b = 0 by omega] at hr; exact hr
  · rw [show a = 0 by omega] at hr; exact hr
  · rw [show a = 0 by omega, show b = 0 by omega] at hr; exact hr
  · rw [show k = 0 by omega] at hr; exact hr
  · rw [show k = 0 by omega, show b = 0 by omega] at hr; exact hr
  · rw [show k = 0 by omega, show a = 0 by omega] at hr; exact hr
  · rw [show k = 0 by omega, show a = 0 by omega, show b = 0 by omega] at hr; exact hr
theorem parse_not {T : Tab} (G : T.Good) {l : List UInt8} (h : ∀ c, c < T.length → T.fits l c = false) : T.parse l = none := by
  cases e : T.parse l with
  | none => rfl
  | some x =>
    obtain ⟨c, k, a, b⟩ := x
    have := parse_fits G e
    rw [h c (parse_some G e).2.2] at this
    cases this
end Ops
end Go.Proofs.YtlfejjegegdbnaaDoor
