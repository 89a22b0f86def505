/- A collect as the fold over the answers that its environment got. No program is spoken of here. -/
import Derived.Test.YtfbnidjcimcfoaaGreatEnvTie
import Derived.Test.YtfbnidjcimcfoaaGreatCollFindPlain
set_option linter.unusedVariables false
set_option linter.unusedSimpArgs false
namespace Go.Proofs.YtfbnidjcimcfoaaGreat
namespace Col
open Arn Clm Cnt Evn

def Co.next (C : Co) (r : Res) : Co :=
  if C.ph = 0 then (if r.w = 0 then { C with ph := 2 } else { C with ph := 1, node := 1, m := C.g + 1 })
  else if C.ph = 1 then
    if r.w = 0 then C.go (behN C.node)
    else if C.node < 2 ^ C.g then C.go (2 * C.node)
    else ({ C with L := C.L ++ [C.node - 1] } : Co).go (behN C.node)
  else C
/-- What is asked next. -/
def Co.ask (C : Co) : Ar → Ar × Res := if C.ph = 0 then aRead 0 (1 + C.g) else aRead (hS C.g) ((5 * 2 ^ C.g + C.node : Nat) : Int)
/-- An answer that segments 0 to 3 give. -/
structure Good (C : Co) (r : Res) : Prop where
  on : C.ph ≠ 2
  seg : C.ph = 0 → r.w = if C.g < 4 then hS C.g else 0
theorem next_step {C : Co} {r : Res} (h : Good C r) : C.next r = C.step 4 (fun _ _ => r.w) := by
  unfold Co.next Co.step
  by_cases h0 : C.ph = 0
  · rw [if_pos h0, if_pos h0]
    have := h.seg h0
    by_cases hg : C.g < 4
    · rw [if_pos hg] at this
      rw [if_pos hg, if_neg (by rw [this]; exact hS_ne _)]
    · rw [if_neg hg] at this
      rw [if_neg hg, if_pos this]
  · rw [if_neg h0, if_neg h0]
variable {A A' : Ar} {C : Co} {L : List Res} {r : Res} {f : Nat → Nat → Int} {i : Nat}
/-- What comes of it is what the machine makes. -/
theorem ask_step (F : C.Fit 4) (S : SegA A 4 f) (hp : C.ph ≠ 2) : (C.ask A).1 = C.acc A ∧ C.next (C.ask A).2 = C.step 4 f ∧ Good C (C.ask A).2 := by
  have hp16 := pow16 (show C.g ≤ 4 from F.gn)
  by_cases h0 : C.ph = 0
  · obtain ⟨e1, e2⟩ := S.fixed (show C.g < 8 by have := F.gn; omega)
    have er : (A.read 0 (1 + C.g)).2 = (if C.g < 4 then hS C.g else 0, 0) := by unfold Ar.read; rw [if_pos e1, e2]
    have ea : C.ask A = ((A.read 0 (1 + C.g)).1, ⟨if C.g < 4 then hS C.g else 0, false, 0⟩) := by unfold Co.ask aRead; rw [if_pos h0, er]
    have hG : Good C (C.ask A).2 := ⟨hp, fun _ => by rw [ea]⟩
    refine ⟨by rw [ea]; unfold Co.acc; rw [if_pos h0], ?_, hG⟩
    rw [next_step hG]
    unfold Co.step
    rw [if_pos h0, if_pos h0]
  · have h1 : C.ph = 1 := by have := F.ph; omega
    obtain ⟨l1, l2, l3, l4⟩ := F.look h1
    obtain ⟨e1, e2⟩ := S.at_ (g := C.g) (j := 5 * 2 ^ C.g + C.node) l1 (by omega)
    have er : (A.read (hS C.g) ((5 * 2 ^ C.g + C.node : Nat) : Int)).2 = (f C.g (5 * 2 ^ C.g + C.node), 0) := by unfold Ar.read; rw [if_pos e1, e2]
    have ea : C.ask A = ((A.read (hS C.g) ((5 * 2 ^ C.g + C.node : Nat) : Int)).1, ⟨f C.g (5 * 2 ^ C.g + C.node), false, 0⟩) := by unfold Co.ask aRead; rw [if_neg h0, er]
    have hG : Good C (C.ask A).2 := ⟨hp, fun h => absurd h h0⟩
    refine ⟨by rw [ea]; unfold Co.acc; rw [if_neg h0, if_pos h1], ?_, hG⟩
    rw [next_step hG]
    unfold Co.step
    rw [if_neg h0, if_neg h0, ea]
/-- A collect is what its environment's answers make. -/
structure TiedO (C : Co) (L : List Res) : Prop where
  eq : C = L.foldl Co.next Co.new
  good : ∀ i, i < L.length → Good ((L.take i).foldl Co.next Co.new) (L.getD i Res.zero)
theorem tiedO_new : TiedO Co.new [] := ⟨rfl, fun i hi => by simp at hi⟩
/-- Behind i answers, r the last one. -/
def coAt (L : List Res) (r : Res) (i : Nat) : Co := stAt Co.next Co.new L r i
theorem co_zero (L : List Res) (r : Res) : coAt L r 0 = Co.new := rfl
theorem co_succ (L : List Res) (r : Res) (hi : i ≤ L.length) : coAt L r (i + 1) = (coAt L r i).next (ansE L r i) := stAt_succ _ _ _ _ hi
theorem co_last (L : List Res) (r : Res) : coAt L r (L.length + 1) = (L.foldl Co.next Co.new).next r ∧ coAt L r L.length = L.foldl Co.next Co.new := stAt_last _ _ _ _
/-- What a run of the document goes by: L are the elder answers, r is the one that A gives. -/
structure GoesO (A A' : Ar) (L : List Res) (r : Res) : Prop where
  at_ : (coAt L r L.length).ask A = (A', r)
  good : ∀ i, i ≤ L.length → Good (coAt L r i) (ansE L r i)
  few : L.length ≤ 50000
theorem goesO (T : TiedO C L) (F : C.Fit 4) (S : SegA A 4 f) (hp : C.ph ≠ 2) (hl : L.length ≤ 50000) : GoesO A (C.ask A).1 L (C.ask A).2 := by
  have e : coAt L (C.ask A).2 L.length = C := by rw [(co_last _ _).2]; exact T.eq.symm
  refine ⟨by rw [e], fun i hi => ?_, hl⟩
  by_cases h : i = L.length
  · subst h
    rw [e]
    have : ansE L (C.ask A).2 L.length = (C.ask A).2 := by unfold ansE; simp
    rw [this]
    exact (ask_step F S hp).2.2
  · have hlt : i < L.length := by omega
    have h1 := T.good i hlt
    have e1 : coAt L (C.ask A).2 i = (L.take i).foldl Co.next Co.new := by
      unfold coAt stAt
      rw [List.take_append_of_le_length (by omega)]
    have e2 : ansE L (C.ask A).2 i = L.getD i Res.zero := by
      unfold ansE
      rw [List.getD_eq_getElem?_getD, List.getD_eq_getElem?_getD, List.getElem?_append_left hlt]
    rw [e1, e2]; exact h1
variable {R : GoesO A A' L r}
theorem co_fit (R : GoesO A A' L r) : ∀ i, i ≤ L.length + 1 → (coAt L r i).Fit 4 := by
  intro i
  induction i with
  | zero => intro _; exact fit_new 4
  | succ i ih =>
    intro hi
    rw [co_succ L r (by omega), next_step (R.good i (by omega))]
    exact fit_step (by omega) (ih (by omega))
/-- Behind the step both are tied again. -/
theorem tiedO_step (T : TiedO C L) (F : C.Fit 4) (S : SegA A 4 f) (hp : C.ph ≠ 2) : TiedO (C.step 4 f) (L ++ [(C.ask A).2]) := by
  obtain ⟨a1, a2, a3⟩ := ask_step F S hp
  refine ⟨by rw [List.foldl_append, ← T.eq]; exact a2.symm, fun i hi => ?_⟩
  rw [List.length_append, List.length_singleton] at hi
  by_cases h : i = L.length
  · subst h
    rw [List.take_left' rfl, ← T.eq, List.getD_eq_getElem?_getD, List.getElem?_append_right (Nat.le_refl _)]
    simpa using a3
  · have hlt : i < L.length := by omega
    rw [List.take_append_of_le_length (by omega), List.getD_eq_getElem?_getD, List.getElem?_append_left hlt, ← List.getD_eq_getElem?_getD]
    exact T.good i hlt
theorem beh_even {v : Nat} (h : 1 ≤ v) : behN (2 * v) = 2 * v + 1 := by
  unfold behN
  show (if 2 * v ≠ 1 ∧ (2 * v) % 2 = 1 then _ else if 2 * v = 1 then 0 else 2 * v + 1) = _
  rw [if_neg (by omega), if_neg (by omega)]
theorem beh_odd : ∀ v : Fin 16, 1 ≤ v.val → behN (2 * v.val + 1) = behN v.val := by decide +kernel
end Col
end Go.Proofs.YtfbnidjcimcfoaaGreat
