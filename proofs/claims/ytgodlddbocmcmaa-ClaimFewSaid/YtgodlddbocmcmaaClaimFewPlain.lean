/- Those that claim, how many are there, and how far each has come. No program is spoken of here. -/
import Derived.Test.YtgodlddbocmcmaaClaimSolo
set_option linter.unusedVariables false
set_option linter.unusedSimpArgs false
namespace Go.Proofs.Ytgodlddbocmcmaa
namespace Clm
open Arn

variable {h own : Nat → Int} {c : Nat → Option Cl} {n : Nat} {most tried : Nat → Nat}
/-- How many of the first k are there. -/
def there (c : Nat → Option Cl) : Nat → Nat
  | 0 => 0
  | k + 1 => there c k + (if (c k).isSome then 1 else 0)
theorem there_le (c : Nat → Option Cl) : ∀ k, there c k ≤ k := by
  intro k
  induction k with
  | zero => exact Nat.le_refl _
  | succ k ih => simp only [there]; split <;> omega
theorem there_list (c : Nat → Option Cl) : ∀ k, there c k = ((List.range k).filter fun i => (c i).isSome).length := by
  intro k
  induction k with
  | zero => rfl
  | succ k ih =>
    rw [List.range_succ, List.filter_append, List.length_append]
    simp only [there, ih, List.filter_cons, List.filter_nil]
    split <;> simp
theorem len_le : ∀ (P Q : List Nat), P.Nodup → (∀ x, x ∈ P → x ∈ Q) → P.length ≤ Q.length := by
  intro P
  induction P with
  | nil => intro Q _ _; exact Nat.zero_le _
  | cons p t ih =>
    intro Q hn hs
    obtain ⟨h1, h2⟩ := List.nodup_cons.1 hn
    have hp : p ∈ Q := hs p (by simp)
    have := ih (Q.erase p) h2 (fun x hx => (List.mem_erase_of_ne (fun e => h1 (by rw [← e]; exact hx))).2 (hs x (by simp [hx])))
    rw [List.length_erase_of_mem hp] at this
    have : 0 < Q.length := List.length_pos_of_mem hp
    simp only [List.length_cons]
    omega
theorem len_there {P : List Nat} (hn : P.Nodup) (hp : ∀ p, p ∈ P → p < n ∧ ∃ C, c p = some C) : P.length ≤ there c n := by
  rw [there_list]
  refine len_le _ _ hn (fun p h => ?_)
  obtain ⟨h1, C, h2⟩ := hp p h
  rw [List.mem_filter]
  exact ⟨List.mem_range.2 h1, by rw [h2]; rfl⟩
/-- What is known of those that claim between two picks. -/
structure Few (own : Nat → Int) (c : Nat → Option Cl) (n : Nat) (most tried : Nat → Nat) : Prop where
  tk : ∀ i C, i < n → c i = some C → C.tok = (i : Int) + 1
  ownr : ∀ s, own s ≠ 0 → ∃ i C, i < n ∧ c i = some C ∧ C.own = true ∧ C.slot = s
  mine : ∀ i C, i < n → c i = some C → C.own = true → own C.slot = (i : Int) + 1
  done : ∀ i C, i < n → c i = some C → C.st = 0 → C.own = true
  many : ∀ (P : List Nat) (s : Nat), P.Nodup → (∀ p, p ∈ P → p < n ∧ ∃ C, c p = some C ∧ s ≤ C.slot) → ∀ p, p ∈ P → P.length + s ≤ most p
  top : ∀ i, i < n → most i ≤ n
  try_ : ∀ i C, i < n → c i = some C → tried i ≤ 2 * C.slot + (if C.own = true then 2 else if C.st = 5 then 1 else 0)
/-- The most that were there, at the end of a pick. -/
def mosts (c : Nat → Option Cl) (n : Nat) (most : Nat → Nat) : Nat → Nat := fun j => if (c j).isSome then max (most j) (there c n) else most j
theorem mosts_ge (j : Nat) : most j ≤ mosts c n most j := by unfold mosts; split <;> omega
theorem mosts_le (ht : ∀ i, i < n → most i ≤ n) : ∀ i, i < n → mosts c n most i ≤ n := by
  intro i hi
  have := ht i hi
  have := there_le c n
  unfold mosts; split <;> omega
theorem few_slot (F : Few own c n most tried) {i : Nat} {C : Cl} (hi : i < n) (hc : c i = some C) : C.slot < most i ∧ C.slot < n := by
  have h1 := F.many [i] C.slot (by simp) (fun p hp => by simp at hp; subst hp; exact ⟨hi, C, hc, Nat.le_refl _⟩) i (by simp)
  have h2 := F.top i hi
  simp at h1
  omega
/-- One comes. -/
theorem few_new (F : Few own c n most tried) {i : Nat} (hi : i < n) (hc : c i = none) : Few own (upd c i (some (Cl.new ((i : Int) + 1)))) n (mosts (upd c i (some (Cl.new ((i : Int) + 1)))) n (upd most i 0)) (upd tried i 0) := by
  have hn : Cl.new ((i : Int) + 1) = ⟨1, (i : Int) + 1, 0, 0, false, 0, 0⟩ := by unfold Cl.new; rw [if_neg (by omega)]
  rw [hn]
  have old : ∀ j D, upd c i (some ⟨1, (i : Int) + 1, 0, 0, false, 0, 0⟩) j = some D → (j = i ∧ D = ⟨1, (i : Int) + 1, 0, 0, false, 0, 0⟩) ∨ (j ≠ i ∧ c j = some D) := by
    intro j D hD
    by_cases e : j = i
    · subst e; rw [upd_at] at hD; cases hD; exact .inl ⟨rfl, rfl⟩
    · rw [upd_ne _ _ e] at hD; exact .inr ⟨e, hD⟩
  refine ⟨?_, ?_, ?_, ?_, ?_, mosts_le (fun j hj => ?_), ?_⟩
  · intro j D hj hD
    rcases old j D hD with ⟨rfl, rfl⟩ | ⟨_, e⟩
    · rfl
    · exact F.tk j D hj e
  · intro s hs
    obtain ⟨j, D, h1, h2, h3, h4⟩ := F.ownr s hs
    have : j ≠ i := fun e => by subst e; rw [hc] at h2; cases h2
    exact ⟨j, D, h1, by rw [upd_ne _ _ this]; exact h2, h3, h4⟩
  · intro j D hj hD ho
    rcases old j D hD with ⟨rfl, rfl⟩ | ⟨_, e⟩
    · cases ho
    · exact F.mine j D hj e ho
  · intro j D hj hD h0
    rcases old j D hD with ⟨rfl, rfl⟩ | ⟨_, e⟩
    · cases h0
    · exact F.done j D hj e h0
  · intro P s hP hp p hpP
    by_cases hiP : i ∈ P
    · obtain ⟨_, D, hD, hs⟩ := hp i hiP
      rw [upd_at] at hD
      cases hD
      have hs0 : s = 0 := by simpa using hs
      have h1 := len_there hP (fun q hq => ⟨(hp q hq).1, (hp q hq).2.choose, (hp q hq).2.choose_spec.1⟩)
      obtain ⟨_, E, hE, _⟩ := hp p hpP
      unfold mosts
      rw [hE]
      simp only [Option.isSome_some, if_true]
      omega
    · have hpi : p ≠ i := fun e => hiP (by rw [← e]; exact hpP)
      have h1 := F.many P s hP (fun q hq => by
        obtain ⟨h2, D, hD, hs⟩ := hp q hq
        rw [upd_ne _ _ (fun e => hiP (by rw [← e]; exact hq))] at hD
        exact ⟨h2, D, hD, hs⟩) p hpP
      have h2 := mosts_ge (c := upd c i (some ⟨1, (i : Int) + 1, 0, 0, false, 0, 0⟩)) (n := n) (most := upd most i 0) p
      rw [upd_ne _ _ hpi] at h2
      omega
  · by_cases e : j = i
    · subst e; rw [upd_at]; omega
    · rw [upd_ne _ _ e]; exact F.top j hj
  · intro j D hj hD
    rcases old j D hD with ⟨rfl, rfl⟩ | ⟨e1, e⟩
    · rw [upd_at]; exact Nat.zero_le _
    · rw [upd_ne _ _ e1]; exact F.try_ j D hj e
/-- One goes. -/
theorem few_gone (F : Few own c n most tried) {i : Nat} {C : Cl} (hi : i < n) (hc : c i = some C) (ho : C.own = true) : Few (upd own C.slot 0) (upd c i none) n (mosts (upd c i none) n most) tried := by
  have old : ∀ j D, upd c i none j = some D → j ≠ i ∧ c j = some D := by
    intro j D hD
    by_cases e : j = i
    · subst e; rw [upd_at] at hD; cases hD
    · rw [upd_ne _ _ e] at hD; exact ⟨e, hD⟩
  refine ⟨?_, ?_, ?_, ?_, ?_, mosts_le F.top, ?_⟩
  · intro j D hj hD; exact F.tk j D hj (old j D hD).2
  · intro s hs
    by_cases e : s = C.slot
    · subst e; rw [upd_at] at hs; exact absurd rfl hs
    · rw [upd_ne _ _ e] at hs
      obtain ⟨j, D, h1, h2, h3, h4⟩ := F.ownr s hs
      have : j ≠ i := fun e2 => by subst e2; rw [hc] at h2; cases h2; exact e h4.symm
      exact ⟨j, D, h1, by rw [upd_ne _ _ this]; exact h2, h3, h4⟩
  · intro j D hj hD hd
    obtain ⟨e1, e2⟩ := old j D hD
    have h1 := F.mine j D hj e2 hd
    have h2 := F.mine i C hi hc ho
    rw [upd_ne _ _ (fun e => by rw [e] at h1; omega)]
    exact h1
  · intro j D hj hD h0; exact F.done j D hj (old j D hD).2 h0
  · intro P s hP hp p hpP
    have h1 := F.many P s hP (fun q hq => by
      obtain ⟨h2, D, hD, hs⟩ := hp q hq
      exact ⟨h2, D, (old q D hD).2, hs⟩) p hpP
    have h2 := mosts_ge (c := upd c i none) (n := n) (most := most) p
    omega
  · intro j D hj hD; exact F.try_ j D hj (old j D hD).2
/-- Was a swap of Own, or one that hung a segment? -/
def hits (C C' : Cl) : Bool := C'.own || (decide (C.st = 3 ∨ C.st = 5) && decide (C'.laid = 0))
/-- One steps: it isn't done. -/
theorem few_step (F : Few own c n most tried) (hn : n ≤ 200) {i : Nat} {C : Cl} {f : Int} (hf : f ≠ 0) (hi : i < n) (hc : c i = some C) (hC : C.Good h) (h0 : C.st ≠ 0) :
    Few (astep h own C f).2.1 (upd c i (some (astep h own C f).2.2)) n (mosts (upd c i (some (astep h own C f).2.2)) n most) (if hits C (astep h own C f).2.2 = true then upd tried i (tried i + 1) else tried) := by
  obtain ⟨z1, z2⟩ := few_slot F hi hc
  have hno : C.own = false := by
    cases ho : C.own with
    | false => rfl
    | true => exact absurd (hC.own ho) h0
  have htr := F.try_ i C hi hc
  rw [hno] at htr
  have h5 := hC.st
  -- what stays the same where nobody's owner changes
  have key : ∀ (C' : Cl), C'.tok = C.tok → C'.own = false → C'.st ≠ 0 → (C'.slot = C.slot ∨ (C'.slot = C.slot + 1 ∧ own C.slot ≠ 0)) → ∀ t' : Nat, t' ≤ 2 * C'.slot + (if C'.st = 5 then 1 else 0) → Few own (upd c i (some C')) n (mosts (upd c i (some C')) n most) (upd tried i t') := by
    intro C' e1 e2 e3 e4 t' ht'
    have old : ∀ j D, upd c i (some C') j = some D → (j = i ∧ D = C') ∨ (j ≠ i ∧ c j = some D) := by
      intro j D hD
      by_cases e : j = i
      · subst e; rw [upd_at] at hD; cases hD; exact .inl ⟨rfl, rfl⟩
      · rw [upd_ne _ _ e] at hD; exact .inr ⟨e, hD⟩
    refine ⟨?_, ?_, ?_, ?_, ?_, mosts_le F.top, ?_⟩
    · intro j D hj hD
      rcases old j D hD with ⟨rfl, rfl⟩ | ⟨_, e⟩
      · rw [e1]; exact F.tk j C hj hc
      · exact F.tk j D hj e
    · intro s hs
      obtain ⟨j, D, q1, q2, q3, q4⟩ := F.ownr s hs
      have : j ≠ i := fun e => by subst e; rw [hc] at q2; cases q2; rw [hno] at q3; cases q3
      exact ⟨j, D, q1, by rw [upd_ne _ _ this]; exact q2, q3, q4⟩
    · intro j D hj hD ho
      rcases old j D hD with ⟨rfl, rfl⟩ | ⟨_, e⟩
      · rw [e2] at ho; cases ho
      · exact F.mine j D hj e ho
    · intro j D hj hD hd
      rcases old j D hD with ⟨rfl, rfl⟩ | ⟨_, e⟩
      · exact absurd hd e3
      · exact F.done j D hj e hd
    · intro P s hP hp p hpP
      have hge := mosts_ge (c := upd c i (some C')) (n := n) (most := most) p
      have hq : ∀ q, q ∈ P → q ≠ i → q < n ∧ ∃ D, c q = some D ∧ s ≤ D.slot := by
        intro q hq hne
        obtain ⟨a1, D, hD, hs⟩ := hp q hq
        rw [upd_ne _ _ hne] at hD
        exact ⟨a1, D, hD, hs⟩
      by_cases hiP : i ∈ P
      · obtain ⟨_, D, hD, hs⟩ := hp i hiP
        rw [upd_at] at hD
        cases hD
        by_cases hs2 : s ≤ C.slot
        · have := F.many P s hP (fun q hqP => by
            by_cases e : q = i
            · subst e; exact ⟨hi, C, hc, hs2⟩
            · exact hq q hqP e) p hpP
          omega
        · rcases e4 with e4 | ⟨e4, e5⟩
          · omega
          · obtain ⟨o, D, q1, q2, q3, q4⟩ := F.ownr _ e5
            have hoi : o ≠ i := fun e => by subst e; rw [hc] at q2; cases q2; rw [hno] at q3; cases q3
            have hoP : o ∉ P := fun ho => by
              obtain ⟨_, E, hE, hsE⟩ := hq o ho hoi
              rw [q2] at hE; cases hE
              omega
            have := F.many (o :: P) C.slot (List.nodup_cons.2 ⟨hoP, hP⟩) (fun q hqP => by
              rcases List.mem_cons.1 hqP with rfl | hqP
              · exact ⟨q1, D, q2, by omega⟩
              · by_cases e : q = i
                · subst e; exact ⟨hi, C, hc, Nat.le_refl _⟩
                · obtain ⟨a1, E, hE, hsE⟩ := hq q hqP e
                  exact ⟨a1, E, hE, by omega⟩) p (by simp [hpP])
            simp only [List.length_cons] at this
            omega
      · have := F.many P s hP (fun q hqP => hq q hqP (fun e => hiP (by rw [← e]; exact hqP))) p hpP
        omega
    · intro j D hj hD
      rcases old j D hD with ⟨rfl, rfl⟩ | ⟨e6, e⟩
      · rw [upd_at, e2]; simpa using ht'
      · rw [upd_ne _ _ e6]; exact F.try_ j D hj e
  have same : upd tried i (tried i) = tried := by funext j; unfold upd; split <;> simp_all
  by_cases s1 : C.st = 1
  · unfold astep hits
    rw [if_pos s1]
    dsimp only
    rw [if_neg (by omega : ¬ C.st = 5)] at htr
    have hd : decide (C.st = 3 ∨ C.st = 5) = false := by simp [s1]
    rw [hd]
    split
    · simp only [hno, Bool.false_and, Bool.or_false, Bool.false_eq_true, if_false]
      have := key { C with st := 2 } rfl hno (by simp) (.inl rfl) (tried i) (by simpa using htr)
      rw [same] at this; simp only [hno] at this; exact this
    · simp only [hno, Bool.false_and, Bool.or_false, Bool.false_eq_true, if_false]
      have := key { C with seg := h (sgN C.slot), st := 5 } rfl hno (by simp) (.inl rfl) (tried i) (by simp at htr ⊢; omega)
      rw [same] at this; simp only [hno] at this; exact this
  by_cases s2 : C.st = 2
  · unfold astep hits
    rw [if_neg s1, if_pos s2]
    dsimp only
    rw [if_neg (by omega : ¬ C.st = 5)] at htr
    have hd : decide (C.st = 3 ∨ C.st = 5) = false := by simp [s2]
    rw [hd]
    simp only [hno, Bool.false_and, Bool.or_false, Bool.false_eq_true, if_false]
    have := key { C with laid := f, st := 3 } rfl hno (by simp) (.inl rfl) (tried i) (by simpa using htr)
    rw [same] at this; simp only [hno] at this; exact this
  by_cases s3 : C.st = 3
  · have hl : C.laid ≠ 0 := hC.laid.1 (.inl s3)
    unfold astep hits
    rw [if_neg s1, if_neg s2, if_pos s3]
    rw [if_neg (by omega : ¬ C.st = 5)] at htr
    have hd : decide (C.st = 3 ∨ C.st = 5) = true := by simp [s3]
    rw [hd]
    by_cases hz : h (sgN C.slot) = 0
    · rw [if_pos hz]
      simp only [hno, Bool.true_and, Bool.false_or, decide_true, if_true]
      have := key { C with seg := C.laid, laid := 0, st := 5 } rfl hno (by simp) (.inl rfl) (tried i + 1) (by simp at htr ⊢; omega)
      simp only [hno] at this; exact this
    · rw [if_neg hz]
      have hd2 : decide (C.laid = 0) = false := by simpa using hl
      simp only [hno, hd2, Bool.and_false, Bool.or_false, Bool.false_eq_true, if_false]
      have := key { C with st := 4 } rfl hno (by simp) (.inl rfl) (tried i) (by simpa using htr)
      rw [same] at this; simp only [hno] at this; exact this
  by_cases s4 : C.st = 4
  · unfold astep hits
    rw [if_neg s1, if_neg s2, if_neg s3, if_pos s4]
    dsimp only
    rw [if_neg (by omega : ¬ C.st = 5)] at htr
    have hd : decide (C.st = 3 ∨ C.st = 5) = false := by simp [s4]
    rw [hd]
    simp only [hno, Bool.false_and, Bool.or_false, Bool.false_eq_true, if_false]
    have := key { C with laid := 0, st := 1 } rfl hno (by simp) (.inl rfl) (tried i) (by simpa using htr)
    rw [same] at this; simp only [hno] at this; exact this
  have s5 : C.st = 5 := by omega
  have hl : C.laid = 0 := by
    have := hC.laid
    rw [s5] at this
    simpa using this
  unfold astep hits
  rw [if_neg s1, if_neg s2, if_neg s3, if_neg s4, if_pos s5]
  rw [if_pos s5] at htr
  have hd : decide (C.st = 3 ∨ C.st = 5) = true := by simp [s5]
  rw [hd]
  by_cases hz : own C.slot = 0
  · rw [if_pos hz]
    simp only [Bool.true_or, if_true]
    have htk := F.tk i C hi hc
    have old : ∀ j D, upd c i (some { C with own := true, st := 0 }) j = some D → (j = i ∧ D = { C with own := true, st := 0 }) ∨ (j ≠ i ∧ c j = some D) := by
      intro j D hD
      by_cases e : j = i
      · subst e; rw [upd_at] at hD; cases hD; exact .inl ⟨rfl, rfl⟩
      · rw [upd_ne _ _ e] at hD; exact .inr ⟨e, hD⟩
    refine ⟨?_, ?_, ?_, ?_, ?_, mosts_le F.top, ?_⟩
    · intro j D hj hD
      rcases old j D hD with ⟨rfl, rfl⟩ | ⟨_, e⟩
      · exact htk
      · exact F.tk j D hj e
    · intro s hs
      by_cases e : s = C.slot
      · subst e
        exact ⟨i, _, hi, upd_at _ _ _, rfl, rfl⟩
      · rw [upd_ne _ _ e] at hs
        obtain ⟨j, D, q1, q2, q3, q4⟩ := F.ownr s hs
        have : j ≠ i := fun e => by subst e; rw [hc] at q2; cases q2; rw [hno] at q3; cases q3
        exact ⟨j, D, q1, by rw [upd_ne _ _ this]; exact q2, q3, q4⟩
    · intro j D hj hD ho
      rcases old j D hD with ⟨rfl, rfl⟩ | ⟨_, e⟩
      · dsimp only; rw [upd_at]; exact htk
      · have h1 := F.mine j D hj e ho
        rw [upd_ne _ _ (fun e2 => by rw [e2] at h1; omega)]
        exact h1
    · intro j D hj hD hd
      rcases old j D hD with ⟨rfl, rfl⟩ | ⟨_, e⟩
      · rfl
      · exact F.done j D hj e hd
    · intro P s hP hp p hpP
      have hge := mosts_ge (c := upd c i (some { C with own := true, st := 0 })) (n := n) (most := most) p
      have := F.many P s hP (fun q hq => by
        obtain ⟨a1, D, hD, hs⟩ := hp q hq
        rcases old q D hD with ⟨rfl, rfl⟩ | ⟨_, e⟩
        · exact ⟨hi, C, hc, hs⟩
        · exact ⟨a1, D, e, hs⟩) p hpP
      omega
    · intro j D hj hD
      rcases old j D hD with ⟨rfl, rfl⟩ | ⟨e6, e⟩
      · rw [upd_at]; simp at htr ⊢; omega
      · rw [upd_ne _ _ e6]; exact F.try_ j D hj e
  · rw [if_neg hz]
    dsimp only
    have hl2 : (({ C with own := false } : Cl).turn (C.slot + 1)).laid = 0 := by unfold Cl.turn; split <;> exact hl
    have ho2 : (({ C with own := false } : Cl).turn (C.slot + 1)).own = false := by unfold Cl.turn; split <;> rfl
    have hs2 : (({ C with own := false } : Cl).turn (C.slot + 1)).slot = C.slot + 1 := by unfold Cl.turn; rw [if_neg (by omega)]
    have ht2 : (({ C with own := false } : Cl).turn (C.slot + 1)).tok = C.tok := by unfold Cl.turn; split <;> rfl
    have h02 : (({ C with own := false } : Cl).turn (C.slot + 1)).st ≠ 0 := by unfold Cl.turn; rw [if_neg (by omega)]; dsimp only; split <;> simp
    rw [ho2, hl2]
    simp only [Bool.true_and, Bool.false_or, decide_true, if_true]
    exact key _ ht2 ho2 h02 (.inr ⟨hs2, hz⟩) (tried i + 1) (by rw [hs2]; simp at htr; omega)
/-- What the law looks at behind such a step. -/
theorem few_look {own' : Nat → Int} (F : Few own c n most tried) {i : Nat} {C C' : Cl} {most' tried' : Nat → Nat} (hi : i < n) (hc : c i = some C) (F' : Few own' (upd c i (some C')) n most' tried') (ho : C'.own = true) (hs : C'.slot = C.slot) : C'.slot < most i ∧ tried' i ≤ 2 * most i + 8 := by
  obtain ⟨z1, z2⟩ := few_slot F hi hc
  have := F'.try_ i C' hi (upd_at _ _ _)
  rw [ho] at this
  simp at this
  omega
end Clm
end Go.Proofs.Ytgodlddbocmcmaa
