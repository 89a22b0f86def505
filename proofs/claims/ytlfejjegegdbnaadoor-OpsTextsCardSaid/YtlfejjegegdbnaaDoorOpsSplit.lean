/- Texts split at blanks, and numerals read: plain facts. No program is spoken of here. -/
import Derived.Test.YtlfejjegegdbnaaDoorOpsPlain
set_option linter.unusedVariables false
set_option linter.unusedSimpArgs false
namespace Go.Proofs.YtlfejjegegdbnaaDoor
namespace Ops
open Go.Lib

/-- One byte more: the words that are whole, and the one that is under way. -/
def wst (s : List (List UInt8) × List UInt8) (c : UInt8) : List (List UInt8) × List UInt8 := if c = 32 then (s.1 ++ [s.2], []) else (s.1, s.2 ++ [c])
def wall (l : List UInt8) : List (List UInt8) × List UInt8 := l.foldl wst ([], [])
def wordsOf (l : List UInt8) : List (List UInt8) := (wall l).1 ++ [(wall l).2]
def joinB : List (List UInt8) → List UInt8
  | [] => []
  | [a] => a
  | a :: b :: r => a ++ 32 :: joinB (b :: r)
theorem wall_snoc (l : List UInt8) (c : UInt8) : wall (l ++ [c]) = wst (wall l) c := by unfold wall; rw [List.foldl_append]; rfl
theorem wst_free (x : List UInt8) (h : (32 : UInt8) ∉ x) : ∀ s, x.foldl wst s = (s.1, s.2 ++ x) := by
  induction x with
  | nil => intro s; simp
  | cons c r ih =>
    intro s
    simp only [List.mem_cons, not_or] at h
    rw [List.foldl_cons, ih h.2]
    unfold wst
    rw [if_neg (fun e => h.1 e.symm)]
    simp
theorem words_of_join : ∀ (ws : List (List UInt8)), ws ≠ [] → (∀ x, x ∈ ws → (32 : UInt8) ∉ x) → ∀ pre, let st := (joinB ws).foldl wst (pre, []); st.1 ++ [st.2] = pre ++ ws
  | [], h, _, _ => absurd rfl h
  | [x], _, h, pre => by
    simp only [joinB]
    rw [wst_free x (h x (by simp))]
    simp
  | x :: y :: r, _, h, pre => by
    have ih := words_of_join (y :: r) (by simp) (fun z hz => h z (List.mem_cons_of_mem _ hz)) (pre ++ [x])
    simp only [joinB] at ih ⊢
    rw [List.foldl_append, wst_free x (h x (by simp)), List.foldl_cons]
    have e : wst (pre, [] ++ x) 32 = (pre ++ [x], []) := by unfold wst; simp
    rw [e, ih]
    simp
theorem words_join (ws : List (List UInt8)) (h0 : ws ≠ []) (h : ∀ x, x ∈ ws → (32 : UInt8) ∉ x) : wordsOf (joinB ws) = ws := by
  have := words_of_join ws h0 h []
  simpa [wordsOf, wall] using this
theorem joinB_snoc_char : ∀ (pre : List (List UInt8)) (x : List UInt8) (c : UInt8), joinB (pre ++ [x ++ [c]]) = joinB (pre ++ [x]) ++ [c]
  | [], x, c => rfl
  | [a], x, c => by simp [joinB]
  | a :: b :: r, x, c => by
    have ih := joinB_snoc_char (b :: r) x c
    simp only [List.cons_append, joinB] at ih ⊢
    rw [ih]; simp
theorem joinB_snoc_new : ∀ (pre : List (List UInt8)) (x : List UInt8), joinB (pre ++ [x] ++ [[]]) = joinB (pre ++ [x]) ++ [32]
  | [], x => by simp [joinB]
  | [a], x => by simp [joinB]
  | a :: b :: r, x => by
    have ih := joinB_snoc_new (b :: r) x
    simp only [List.cons_append, joinB] at ih ⊢
    rw [ih]; simp
theorem snoc_ind {α : Type} {P : List α → Prop} (h0 : P []) (h1 : ∀ l c, P l → P (l ++ [c])) (l : List α) : P l := by
  rw [← List.reverse_reverse l]
  induction l.reverse with
  | nil => exact h0
  | cons c r ih => rw [List.reverse_cons]; exact h1 _ _ ih
theorem join_words (l : List UInt8) : joinB (wordsOf l) = l := by
  refine snoc_ind (P := fun l => joinB (wordsOf l) = l) rfl (fun l c ih => ?_) l
  unfold wordsOf at ih ⊢
  rw [wall_snoc]
  unfold wst
  split
  · rename_i h
    subst h
    show joinB ((wall l).1 ++ [(wall l).2] ++ [[]]) = _
    rw [joinB_snoc_new, ih]
  · show joinB ((wall l).1 ++ [(wall l).2 ++ [c]]) = _
    rw [joinB_snoc_char, ih]
theorem words_len (l : List UInt8) : 1 ≤ (wordsOf l).length := by unfold wordsOf; simp
theorem words_count (l : List UInt8) : (wordsOf l).length ≤ l.length + 1 := by
  refine snoc_ind (P := fun l => (wordsOf l).length ≤ l.length + 1) (by decide) (fun l c ih => ?_) l
  unfold wordsOf at ih ⊢
  rw [wall_snoc]
  unfold wst
  split <;> (simp at ih ⊢; omega)
theorem words_each (l : List UInt8) : ∀ x, x ∈ wordsOf l → x.length ≤ l.length := by
  refine snoc_ind (P := fun l => ∀ x, x ∈ wordsOf l → x.length ≤ l.length) (by decide) (fun l c ih => ?_) l
  intro x hx
  unfold wordsOf at ih hx
  rw [wall_snoc] at hx
  have h2 := ih (wall l).2 (by simp)
  unfold wst at hx
  split at hx
  · simp only [List.append_assoc, List.mem_append, List.mem_singleton, List.cons_append, List.nil_append, List.mem_cons, List.not_mem_nil, or_false] at hx
    rcases hx with hx | hx | hx
    · have := ih x (by simp [hx]); simp; omega
    · subst hx; simp; omega
    · subst hx; simp
  · simp only [List.mem_append, List.mem_singleton] at hx
    rcases hx with hx | hx
    · have := ih x (by simp [hx]); simp; omega
    · subst hx; simp; omega

/-! ### numerals -/
def isDig (c : UInt8) : Bool := decide (48 ≤ c.toNat) && decide (c.toNat ≤ 57)
def valN (l : List UInt8) : Nat := l.foldl (fun a c => 10 * a + (c.toNat - 48)) 0
def canonB (l : List UInt8) : Bool := !l.isEmpty && decide (l.length ≤ 9) && !(decide (1 < l.length) && (l.getD 0 0 == 48)) && l.all isDig
/-- Number: of digits; -1: it is none. -/
def numOf (l : List UInt8) : Int := if canonB l then (valN l : Int) else -1
theorem valN_snoc (l : List UInt8) (c : UInt8) : valN (l ++ [c]) = 10 * valN l + (c.toNat - 48) := by unfold valN; rw [List.foldl_append]; rfl
theorem valN_dec (u : Nat) : valN (decDigits u) = u := by
  induction u using Nat.strongRecOn with
  | _ u ih =>
    by_cases h : u < 10
    · rw [decDigits, dif_pos h]
      show 10 * 0 + ((UInt8.ofNat (48 + u)).toNat - 48) = u
      rw [byte_dig u h]; omega
    · rw [decDigits, dif_neg h, valN_snoc, ih (u / 10) (by omega), byte_dig _ (by omega)]; omega
theorem dec_head (u : Nat) : 1 ≤ u → (decDigits u).getD 0 0 ≠ 48 := by
  induction u using Nat.strongRecOn with
  | _ u ih =>
    intro hu
    by_cases h : u < 10
    · rw [decDigits, dif_pos h]
      intro e
      have := congrArg UInt8.toNat e
      simp [List.getD] at this
      omega
    · rw [decDigits, dif_neg h]
      have := ih (u / 10) (by omega) (by omega)
      have hne := dec_ne (u / 10)
      cases hd : decDigits (u / 10) with
      | nil => exact absurd hd hne
      | cons a r => rw [hd] at this; simpa using this
theorem dec_one_of (u : Nat) (h : 1 < (decDigits u).length) : 10 ≤ u := by
  rcases Nat.lt_or_ge u 10 with h1 | h1
  · rw [decDigits, dif_pos h1] at h; simp at h
  · exact h1
theorem num_dec (u : Nat) (h : (decDigits u).length ≤ 9) : numOf (decDigits u) = (u : Int) := by
  have hc : canonB (decDigits u) = true := by
    unfold canonB
    simp only [Bool.and_eq_true, Bool.not_eq_true', List.all_eq_true]
    refine ⟨⟨⟨?_, by simpa using h⟩, ?_⟩, fun c hc => ?_⟩
    · simpa using dec_ne u
    · rw [Bool.and_eq_false_iff]
      by_cases hl : 1 < (decDigits u).length
      · right
        rw [beq_eq_false_iff_ne]
        exact dec_head u (by have := dec_one_of u hl; omega)
      · left; simpa using hl
    · have := dec_digit u c hc
      unfold isDig; simp; omega
  unfold numOf
  rw [hc, valN_dec]; rfl
theorem valN_pos : ∀ (l : List UInt8), (∀ c, c ∈ l → isDig c = true) → l ≠ [] → l.getD 0 0 ≠ 48 → 1 ≤ valN l := by
  intro l
  refine snoc_ind (P := fun l => (∀ c, c ∈ l → isDig c = true) → l ≠ [] → l.getD 0 0 ≠ 48 → 1 ≤ valN l) (fun _ h => absurd rfl h) (fun l c ih hd _ hh => ?_) l
  rw [valN_snoc]
  by_cases hl : l = []
  · subst hl
    have := hd c (by simp)
    unfold isDig at this
    simp at this hh
    have h48 : c.toNat ≠ 48 := fun e => hh (UInt8.toNat_inj.1 (by simpa using e))
    omega
  · have := ih (fun x hx => hd x (by simp [hx])) hl (by
      cases l with
      | nil => exact absurd rfl hl
      | cons a r => simpa using hh)
    omega
theorem canon_dec : ∀ (l : List UInt8), (∀ c, c ∈ l → isDig c = true) → l ≠ [] → (1 < l.length → l.getD 0 0 ≠ 48) → decDigits (valN l) = l := by
  intro l
  refine snoc_ind (P := fun l => (∀ c, c ∈ l → isDig c = true) → l ≠ [] → (1 < l.length → l.getD 0 0 ≠ 48) → decDigits (valN l) = l) (fun _ h => absurd rfl h) (fun l c ih hd _ hh => ?_) l
  have hc := hd c (by simp)
  unfold isDig at hc
  simp only [Bool.and_eq_true, decide_eq_true_eq] at hc
  have hb : UInt8.ofNat (48 + (c.toNat - 48)) = c := by
    rw [show 48 + (c.toNat - 48) = c.toNat by omega]; simp
  rw [valN_snoc]
  by_cases hl : l = []
  · subst hl
    show decDigits (10 * 0 + (c.toNat - 48)) = [c]
    rw [decDigits, dif_pos (by omega)]
    rw [Nat.mul_zero, Nat.zero_add, hb]
  · have hlen : 1 ≤ l.length := by cases l with
      | nil => exact absurd rfl hl
      | cons a r => simp
    have hh' : l.getD 0 0 ≠ 48 := by
      have := hh (by simp; omega)
      cases l with
      | nil => exact absurd rfl hl
      | cons a r => simpa using this
    have hp := valN_pos l (fun x hx => hd x (by simp [hx])) hl hh'
    have e := ih (fun x hx => hd x (by simp [hx])) hl (fun _ => hh')
    rw [decDigits, dif_neg (by omega)]
    rw [show (10 * valN l + (c.toNat - 48)) / 10 = valN l by omega, e, show (10 * valN l + (c.toNat - 48)) % 10 = c.toNat - 48 by omega, hb]
theorem num_back (l : List UInt8) (h : 0 ≤ numOf l) : itoa (numOf l) = l ∧ 0 ≤ numOf l := by
  unfold numOf at h ⊢
  split at h
  · rename_i hc
    rw [if_pos hc]
    unfold canonB at hc
    simp only [Bool.and_eq_true, Bool.not_eq_true', List.all_eq_true] at hc
    obtain ⟨⟨⟨h1, h2⟩, h3⟩, h4⟩ := hc
    refine ⟨?_, by omega⟩
    rw [itoa_nonneg]
    refine canon_dec l h4 (by simpa using h1) (fun hl => ?_)
    rw [Bool.and_eq_false_iff] at h3
    rcases h3 with h3 | h3
    · simp at h3; omega
    · rw [beq_eq_false_iff_ne] at h3; exact h3
  · omega
end Ops
end Go.Proofs.YtlfejjegegdbnaaDoor
