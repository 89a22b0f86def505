/- One who claims alone: the first slot that is nobody's, in few steps. No program is spoken of here. -/
import Derived.Test.YtgodlddbocmcmaaClaimStep
set_option linter.unusedVariables false
set_option linter.unusedSimpArgs false
namespace Go.Proofs.Ytgodlddbocmcmaa
namespace Clm
open Arn

variable {A : Ar} {h own own0 : Nat → Int} {c : Nat → Option Cl} {n : Nat}
theorem Inv.congr (I : Inv A h own c n) {d : Nat → Option Cl} (e : ∀ i, i < n → c i = d i) : Inv A h own d n :=
  ⟨I.ok, I.clean, I.fix, I.seg, I.non, I.inj, fun i C hi hc => I.prv i C hi (by rw [e i hi]; exact hc), fun i j C D hi hj hij hc hd => I.apart i j C D hi hj hij (by rw [e i hi]; exact hc) (by rw [e j hj]; exact hd),
    by rw [I.use, sum_same (f := pvSize c) (g := pvSize d) n (fun i hi => by unfold pvSize; rw [e i hi])], fun i C hi hc => I.good i C hi (by rw [e i hi]; exact hc)⟩
/-- One that claims comes, or goes. -/
theorem Inv.change (I : Inv A h own c n) {i : Nat} (hi : i < n) (h0 : ∀ C, c i = some C → C.laid = 0) (o : Option Cl) (ho : ∀ D, o = some D → D.laid = 0 ∧ D.Good h) : Inv A h own (upd c i o) n := by
  have key : ∀ j D, upd c i o j = some D → D.laid ≠ 0 → j ≠ i ∧ c j = some D := by
    intro j D hD hd0
    by_cases e : j = i
    · subst e; rw [upd_at] at hD; exact absurd (ho D hD).1 hd0
    · rw [upd_ne _ _ e] at hD; exact ⟨e, hD⟩
  have z1 : pvSize c i = 0 := by
    unfold pvSize
    cases hc : c i with
    | none => rfl
    | some C => dsimp only; rw [if_pos (h0 C hc)]
  have z2 : pvSize (upd c i o) i = 0 := by
    unfold pvSize
    rw [upd_at]
    cases o with
    | none => rfl
    | some D => dsimp only; rw [if_pos (ho D rfl).1]
  refine ⟨I.ok, I.clean, I.fix, I.seg, I.non, I.inj, ?_, ?_, ?_, ?_⟩
  · intro j D hj hD hd0
    exact I.prv j D hj (key j D hD hd0).2 hd0
  · intro j k D E hj hk hjk hD hE hd0
    obtain ⟨e1, e2⟩ := key j D hD hd0
    by_cases ek : k = i
    · subst ek
      rw [upd_at] at hE
      rw [(ho E hE).1]
      exact hd0
    · rw [upd_ne _ _ ek] at hE
      exact I.apart j k D E hj hk hjk e2 hE hd0
  · rw [I.use, sum_same (f := pvSize (upd c i o)) (g := pvSize c) n (fun j hj => ?_)]
    by_cases e : j = i
    · subst e; rw [z1, z2]
    · unfold pvSize; rw [upd_ne _ _ e]
  · intro j D hj hD
    by_cases e : j = i
    · subst e; rw [upd_at] at hD; exact (ho D hD).2
    · rw [upd_ne _ _ e] at hD; exact I.good j D hj hD
theorem new_good {tok : Int} (h0 : tok ≠ 0) (h1 : W64 tok) : (Cl.new tok).laid = 0 ∧ (Cl.new tok).Good h := by
  unfold Cl.new
  rw [if_neg h0]
  exact ⟨rfl, h0, h1, by simp, by simp, by simp, by unfold W64; dsimp only; omega, by unfold W64; dsimp only; omega, by simp, by simp⟩
theorem sum_zero {f : Nat → Nat} : ∀ n, (∀ i, i < n → f i = 0) → sumTo f n = 0 := by
  intro n
  induction n with
  | zero => intro _; rfl
  | succ n ih => intro h; simp only [sumTo]; rw [ih (fun i hi => h i (by omega)), h n (by omega)]
theorem inv_new {cap : Nat} (hc : cap ≤ 60000) (n : Nat) : Inv (Ar.new cap) (fun _ => 0) (fun _ => 0) (fun _ => none) n := by
  refine ⟨new_ok hc, rfl, fun g hg => ?_, fun g _ hh => absurd rfl hh, fun _ _ _ => rfl, fun g g' _ _ hh => absurd rfl hh, fun i C _ hC => (by cases hC), fun i j C D _ _ _ hC => (by cases hC), ?_, fun i C _ hC => (by cases hC)⟩
  · show (List.replicate 9 (0 : Int)).getD (1 + g) 0 = 0
    rw [List.getD_eq_getElem?_getD, List.getElem?_replicate]
    split <;> rfl
  · rw [sum_zero (f := pvSize fun _ => none) n (fun i hi => rfl), sum_zero (f := segSize fun _ => 0) 8 (fun g _ => rfl)]
    rfl
/-- An owner's word is written. -/
theorem Inv.write (I : Inv A h own c n) {s : Nat} (hs : s < 255) (hh : h (sgN s) ≠ 0) {v : Int} (hv : W64 v) :
    Inv (A.write (h (sgN s)) (5 * ofN s) v).1 h (upd own s v) c n ∧ (A.write (h (sgN s)) (5 * ofN s) v).1.cap = A.cap := by
  have e : A.write (h (sgN s)) (5 * ofN s) v = ({ A.set (h (sgN s)) (5 * ofN s) v with t := { A.t with writes := A.t.writes + 1 } }, 0) := by
    unfold Ar.write; rw [if_pos (I.w_row hs hh).1]
  rw [e]
  exact ⟨I.own_ _ hs hh hv, by unfold Ar.set; split <;> rfl⟩
theorem sg_mono {s t : Nat} (ht : t < 255) (h : s ≤ t) : sgN s ≤ sgN t := by
  have h1 := (sg_fin ⟨s, by omega⟩).2.1
  have h2 := (sg_fin ⟨t, ht⟩).2.2
  dsimp only at h1 h2
  have h3 : 2 ^ sgN s < 2 ^ (sgN t + 1) := by rw [Nat.pow_succ]; omega
  have := (Nat.pow_lt_pow_iff_right (show 1 < 2 by omega)).1 h3
  omega
theorem sg_new_fin : ∀ s : Fin 254, ofN (s.val + 1) = 0 → sgN (s.val + 1) = sgN s.val + 1 := by decide +kernel
theorem sg_new {s : Nat} (h : s < 254) (h1 : ofN (s + 1) = 0) : sgN (s + 1) = sgN s + 1 := sg_new_fin ⟨s, h⟩ h1
/-- How many steps one who is alone has left at most. -/
def msr (s0 : Nat) (C : Cl) : Nat := (s0 - C.slot) + 3 * (sgN s0 - sgN C.slot) + (if C.st = 1 then 4 else if C.st = 2 then 3 else if C.st = 3 then 2 else if C.st = 5 then 1 else 0)
structure Solo (h own own0 : Nat → Int) (C : Cl) (s0 : Nat) (tok : Int) : Prop where
  tk : C.tok = tok
  is : (C.st = 0 ∧ C.own = true ∧ C.slot = s0 ∧ own = upd own0 s0 tok) ∨ (own = own0 ∧ C.slot ≤ s0 ∧ (C.st = 1 ∨ ((C.st = 2 ∨ C.st = 3) ∧ h (sgN C.slot) = 0) ∨ C.st = 5))
theorem solo_new {tok : Int} (h0 : tok ≠ 0) (s0 : Nat) : Solo h own own (Cl.new tok) s0 tok ∧ msr s0 (Cl.new tok) = s0 + 3 * sgN s0 + 4 := by
  unfold Cl.new
  rw [if_neg h0]
  refine ⟨⟨rfl, .inr ⟨rfl, Nat.zero_le _, .inl rfl⟩⟩, ?_⟩
  unfold msr
  simp [show sgN 0 = 0 by decide]
theorem solo_step {C : Cl} {s0 : Nat} {tok f : Int} (S : Solo h own own0 C s0 tok) (h0 : own0 s0 = 0) (hl : ∀ s, s < s0 → own0 s ≠ 0) (h5 : s0 < 255) :
    Solo (astep h own C f).1 (astep h own C f).2.1 own0 (astep h own C f).2.2 s0 tok ∧ (msr s0 (astep h own C f).2.2 + 1 ≤ msr s0 C ∨ msr s0 (astep h own C f).2.2 = 0) ∧ (∀ g, h g ≠ 0 → (astep h own C f).1 g = h g) := by
  obtain ⟨ht, ⟨s1, s2, s3, s4⟩ | ⟨s1, s2, s3⟩⟩ := S
  · have e : astep h own C f = (h, own, C) := by unfold astep; simp [s1]
    rw [e]
    refine ⟨⟨ht, .inl ⟨s1, s2, s3, s4⟩⟩, .inr ?_, fun g _ => rfl⟩
    unfold msr
    simp [s1, s3]
  · have hm := sg_mono h5 s2
    rcases s3 with s3 | ⟨s3 | s3, s6⟩ | s3
    · unfold astep
      rw [if_pos s3]
      dsimp only
      by_cases hz : h (sgN C.slot) = 0
      · rw [if_pos hz]
        refine ⟨⟨ht, .inr ⟨s1, s2, .inr (.inl ⟨.inl rfl, hz⟩)⟩⟩, .inl ?_, fun g _ => rfl⟩
        unfold msr
        simp [s3]
      · rw [if_neg hz]
        refine ⟨⟨ht, .inr ⟨s1, s2, .inr (.inr rfl)⟩⟩, .inl ?_, fun g _ => rfl⟩
        unfold msr
        simp [s3]
    · unfold astep
      rw [if_neg (by omega), if_pos s3]
      refine ⟨⟨ht, .inr ⟨s1, s2, .inr (.inl ⟨.inr rfl, s6⟩)⟩⟩, .inl ?_, fun g _ => rfl⟩
      unfold msr
      simp [s3]
    · unfold astep
      rw [if_neg (by omega), if_neg (by omega), if_pos s3, if_pos s6]
      refine ⟨⟨ht, .inr ⟨s1, s2, .inr (.inr rfl)⟩⟩, .inl ?_, fun g hg => ?_⟩
      · unfold msr
        simp [s3]
      · exact upd_ne _ _ (fun e => hg (by rw [e]; exact s6))
    · unfold astep
      rw [if_neg (by omega), if_neg (by omega), if_neg (by omega), if_neg (by omega), if_pos s3]
      by_cases hz : own C.slot = 0
      · have e : C.slot = s0 := by
          rcases Nat.lt_or_ge C.slot s0 with h1 | h1
          · exact absurd hz (by rw [s1]; exact hl _ h1)
          · omega
        rw [if_pos hz]
        refine ⟨⟨ht, .inl ⟨rfl, rfl, e, ?_⟩⟩, .inr ?_, fun g _ => rfl⟩
        · dsimp only; rw [e, s1, ht]
        · unfold msr
          dsimp only
          rw [e]; simp
      · have hlt : C.slot < s0 := by
          rcases Nat.lt_or_ge C.slot s0 with h1 | h1
          · exact h1
          · exact absurd (show own C.slot = 0 by rw [s1, show C.slot = s0 by omega]; exact h0) hz
        rw [if_neg hz]
        have hm2 := sg_mono h5 (show C.slot + 1 ≤ s0 by omega)
        dsimp only
        unfold Cl.turn
        rw [if_neg (by omega)]
        dsimp only
        by_cases h6 : ofN (C.slot + 1) = 0
        · rw [if_pos h6]
          refine ⟨⟨ht, .inr ⟨s1, hlt, .inl rfl⟩⟩, .inl ?_, fun g _ => rfl⟩
          have := sg_new (by omega) h6
          unfold msr
          simp [s3]
          omega
        · rw [if_neg h6]
          refine ⟨⟨ht, .inr ⟨s1, hlt, .inr (.inr rfl)⟩⟩, .inl ?_, fun g _ => rfl⟩
          have := sg_next (by omega) h6
          unfold msr
          simp [s3]
          omega
theorem solo_end {C : Cl} {s0 : Nat} {tok : Int} (S : Solo h own own0 C s0 tok) (hm : msr s0 C = 0) : C.st = 0 ∧ C.own = true ∧ C.slot = s0 ∧ own = upd own0 s0 tok := by
  obtain ⟨ht, s | ⟨s1, s2, s3⟩⟩ := S
  · exact s
  · unfold msr at hm
    rcases s3 with s3 | ⟨s3 | s3, s6⟩ | s3 <;> simp [s3] at hm
end Clm
end Go.Proofs.Ytgodlddbocmcmaa
