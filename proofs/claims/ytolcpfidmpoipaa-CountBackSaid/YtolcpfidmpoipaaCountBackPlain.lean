/- Those that enter and exit, plainly. No program is spoken of here. -/
import Derived.Test.YtolcpfidmpoipaaCountPlain2
set_option linter.unusedVariables false
set_option linter.unusedSimpArgs false
namespace Go.Proofs.Ytolcpfidmpoipaa
namespace Cnt
open Arn Clm

def lessM : Int := 18446744073709551615
/-- What one that counts has counted. -/
def conO (o : Option Ct) (g j : Nat) : Nat := match o with
  | none => 0
  | some C => if C.more = 1 then con C.slot 0 C.first g j else con C.slot C.first (kN C.slot) g j
theorem conO_le (o : Option Ct) (g j : Nat) : conO o g j ≤ 1 := by
  unfold conO
  split
  · omega
  · split <;> exact con_le _ _ _ _ _
def bF (c : Nat → Option Ct) (n g j : Nat) : Nat := sumTo (fun i => conO (c i) g j) n
def others (c : Nat → Option Ct) (i n g j : Nat) : Nat := sumTo (fun k => if k = i then 0 else conO (c k) g j) n
variable {A : Ar} {n i : Nat} {c : Nat → Option Ct} {C : Ct} {sl : Nat → Nat} {inn : Nat → Bool}
theorem bF_parts (hi : i < n) (o : Option Ct) (g j : Nat) : bF (upd c i o) n g j = others c i n g j + conO o g j := by
  have h := sum_upd (f := fun k => conO (upd c i o k) g j) (g := fun k => if k = i then 0 else conO (c k) g j) n i hi (fun k hk => by simp only [if_neg hk, upd_ne _ _ hk])
  simp only [if_pos, upd_at] at h
  unfold bF others
  omega
theorem upd_self (c : Nat → Option Ct) (i : Nat) : upd c i (c i) = c := by
  funext k
  by_cases e : k = i
  · subst e; rw [upd_at]
  · rw [upd_ne _ _ e]
theorem bF_split (hi : i < n) (g j : Nat) : bF c n g j = others c i n g j + conO (c i) g j := by
  have := bF_parts (c := c) hi (c i) g j
  rw [upd_self] at this
  exact this
theorem others_le (hn : n ≤ 12) (g j : Nat) : others c i n g j ≤ 1000 := by
  have := sum_le (f := fun k => if k = i then 0 else conO (c k) g j) (k := 1) n (fun k _ => by
    show (if k = i then 0 else conO (c k) g j) ≤ 1
    split
    · omega
    · exact conO_le _ _ _)
  unfold others; omega
/-- What is known of each. -/
structure OneOk (s : Nat) (C : Ct) : Prop where
  slot : C.slot = s
  seg : C.seg = hS (sgN s)
  last : C.last = kN s
  le : C.first ≤ C.last
  more : C.more = 1 ∨ C.more = lessM
def Gd (sl : Nat → Nat) (c : Nat → Option Ct) (n : Nat) : Prop := ∀ i C, i < n → c i = some C → OneOk (sl i) C
/-- in tells who is within. -/
def Cp (inn : Nat → Bool) (c : Nat → Option Ct) (lo n : Nat) : Prop := ∀ i, lo ≤ i → i < n → (c i = none → inn i = false) ∧ ∀ C, c i = some C → (C.more = 1 ∧ inn i = true) ∨ (C.more = lessM ∧ inn i = false)
theorem OneOk.fit {s : Nat} (h : OneOk s C) (hs : s < 255) : C.Fit := by
  obtain ⟨h1, h2, h3, h4, h5⟩ := h
  refine ⟨by rw [h1]; exact hs, by rw [h2]; exact hS_64 (sg_facts hs).1, by rw [h2]; exact hS_ne _, by rw [h1, h3]; exact Nat.le_refl _, h4, ?_⟩
  rcases h5 with e | e
  · rw [e]; unfold W64; omega
  · rw [e]; unfold W64 lessM; omega
theorem OneOk.step {s : Nat} (h : OneOk s C) (A : Ar) : OneOk s (C.step A).2 := by
  unfold Ct.step
  split
  · exact ⟨h.slot, h.seg, h.last, by simp; omega, h.more⟩
  · exact h
theorem gd_upd (h : Gd sl c n) {C : Ct} (hC : OneOk (sl i) C) : Gd sl (upd c i (some C)) n := fun k D hk hd => by
  by_cases e : k = i
  · subst e; rw [upd_at] at hd; cases hd; exact hC
  · rw [upd_ne _ _ e] at hd; exact h k D hk hd
/-- A step. -/
theorem back_step (S : SegA A 4 (fun g j => ((bF c n g j : Nat) : Int))) (G : Gd sl c n) (hn : n ≤ 12) (hi : i < n) (hs : sl i < 15) (hc : c i = some C) :
    SegA (C.step A).1 4 (fun g j => ((bF (upd c i (some (C.step A).2)) n g j : Nat) : Int)) := by
  obtain ⟨h1, h2, h3, h4, h5⟩ := G i C hi hc
  have hg : sgN (sl i) < 4 := (show ∀ s : Fin 15, sgN s.val < 4 by decide +kernel) ⟨sl i, hs⟩
  have e0 : (fun g j => ((bF c n g j : Nat) : Int)) = fun g j => ((others c i n g j + conO (some C) g j : Nat) : Int) := by
    funext g j; rw [bF_split hi, hc]
  rw [e0] at S
  have e1 : ∀ C' : Ct, (fun g j => ((bF (upd c i (some C')) n g j : Nat) : Int)) = fun g j => ((others c i n g j + conO (some C') g j : Nat) : Int) := fun C' => by
    funext g j; rw [bF_parts hi]
  rw [e1]
  have hB := others_le (c := c) (i := i) hn
  by_cases hlt : C.first < C.last
  · have e2 : C.step A = ((A.add C.seg (adN C.slot C.first) C.more).1, { C with first := C.first + 1 }) := by unfold Ct.step; rw [if_pos hlt]
    rw [e2]
    rcases h5 with e | e
    · have f1 : (fun g j => ((others c i n g j + conO (some C) g j : Nat) : Int)) = fun g j => ((others c i n g j + con (sl i) 0 C.first g j : Nat) : Int) := by
        funext g j; unfold conO; dsimp only; rw [if_pos e, h1]
      have f2 : (fun g j => ((others c i n g j + conO (some { C with first := C.first + 1 }) g j : Nat) : Int)) = fun g j => ((others c i n g j + con (sl i) 0 (C.first + 1) g j : Nat) : Int) := by
        funext g j; unfold conO; dsimp only; rw [if_pos e, h1]
      rw [f1] at S
      rw [f2]
      dsimp only
      rw [h2, h1, e]
      exact S.up (by omega) hg (Nat.zero_le _) (by omega) hB
    · have f1 : (fun g j => ((others c i n g j + conO (some C) g j : Nat) : Int)) = fun g j => ((others c i n g j + con (sl i) C.first (kN (sl i)) g j : Nat) : Int) := by
        funext g j; unfold conO; dsimp only; rw [if_neg (by rw [e]; decide), h1]
      have f2 : (fun g j => ((others c i n g j + conO (some { C with first := C.first + 1 }) g j : Nat) : Int)) = fun g j => ((others c i n g j + con (sl i) (C.first + 1) (kN (sl i)) g j : Nat) : Int) := by
        funext g j; unfold conO; dsimp only; rw [if_neg (by rw [e]; decide), h1]
      rw [f1] at S
      rw [f2]
      dsimp only
      rw [h2, h1, e]
      exact S.down (by omega) hg (by omega) (Nat.le_refl _) hB
  · have e2 : C.step A = (A, C) := by unfold Ct.step; rw [if_neg hlt]
    rw [e2]; exact S
def enX (s : Nat) : Ct := ⟨hS (sgN s), s, 0, kN s, 1⟩
def exX (s : Nat) : Ct := ⟨hS (sgN s), s, 0, kN s, lessM⟩
theorem enX_ok (s : Nat) : OneOk s (enX s) := ⟨rfl, rfl, rfl, Nat.zero_le _, .inl rfl⟩
theorem exX_ok (s : Nat) : OneOk s (exX s) := ⟨rfl, rfl, rfl, Nat.zero_le _, .inr rfl⟩
theorem conO_enX (s g j : Nat) : conO (some (enX s)) g j = 0 := by
  unfold conO enX; dsimp only; rw [if_pos rfl]; exact con_none (Nat.le_refl _) _ _
theorem conO_exX (s g j : Nat) : conO (some (exX s)) g j = con s 0 (kN s) g j := by
  unfold conO exX; dsimp only; rw [if_neg (show ¬ lessM = 1 by decide)]
/-- Who is done begins anew: nothing turns. -/
theorem back_anew (S : SegA A 4 (fun g j => ((bF c n g j : Nat) : Int))) (hi : i < n) {o : Option Ct} (h : ∀ g j, conO o g j = conO (c i) g j) : SegA A 4 (fun g j => ((bF (upd c i o) n g j : Nat) : Int)) := by
  have e : (fun g j => ((bF (upd c i o) n g j : Nat) : Int)) = fun g j => ((bF c n g j : Nat) : Int) := by
    funext g j; rw [bF_parts hi, bF_split hi, h]
  rw [e]; exact S
theorem done_in {s : Nat} (h : OneOk s C) (h1 : C.last ≤ C.first) (h2 : C.more = 1) (g j : Nat) : conO (some (exX s)) g j = conO (some C) g j := by
  rw [conO_exX]
  unfold conO; dsimp only
  rw [if_pos h2, h.slot]
  have := h.le
  have := h.last
  rw [show C.first = kN s by omega]
theorem done_out {s : Nat} (h : OneOk s C) (h1 : C.last ≤ C.first) (h2 : C.more = lessM) (g j : Nat) : conO (some C) g j = 0 := by
  unfold conO; dsimp only
  rw [if_neg (by rw [h2]; decide), h.slot]
  have := h.last
  exact con_none (by omega) _ _
theorem cp_enter (h : Cp inn c 0 n) {s : Nat} : Cp (upd inn i true) (upd c i (some (enX s))) 0 n := fun k _ hk => by
  by_cases e : k = i
  · subst e
    rw [upd_at, upd_at]
    exact ⟨fun h => (by cases h), fun D hd => by cases hd; exact .inl ⟨rfl, rfl⟩⟩
  · rw [upd_ne _ _ e, upd_ne _ _ e]; exact h k (Nat.zero_le _) hk
theorem cp_exit (h : Cp inn c 0 n) {s : Nat} : Cp (upd inn i false) (upd c i (some (exX s))) 0 n := fun k _ hk => by
  by_cases e : k = i
  · subst e
    rw [upd_at, upd_at]
    exact ⟨fun h => (by cases h), fun D hd => by cases hd; exact .inr ⟨rfl, rfl⟩⟩
  · rw [upd_ne _ _ e, upd_ne _ _ e]; exact h k (Nat.zero_le _) hk
theorem step_more (C : Ct) (A : Ar) : (C.step A).2.more = C.more := by unfold Ct.step; split <;> rfl
theorem cp_step {lo : Nat} (h : Cp inn c lo n) (hc : c i = some C) (A : Ar) : Cp inn (upd c i (some (C.step A).2)) lo n := fun k hl hk => by
  by_cases e : k = i
  · subst e
    rw [upd_at]
    refine ⟨fun h => (by cases h), fun D hd => ?_⟩
    cases hd
    rw [step_more]
    exact (h k hl hk).2 C hc
  · rw [upd_ne _ _ e]; exact h k hl hk
theorem cp_skip (h : Cp inn c i n) (o : Option Ct) : Cp inn (upd c i o) (i + 1) n := fun k hl hk => by
  rw [upd_ne _ _ (by omega)]; exact h k (by omega) hk
theorem cp_up {lo lo' : Nat} (h : Cp inn c lo n) (hl : lo ≤ lo') : Cp inn c lo' n := fun k hk hn => h k (by omega) hn
/-- Whoever is through: there is none, or it has exited. -/
def Thru (o : Option Ct) : Prop := ∀ C, o = some C → C.more = lessM ∧ C.last ≤ C.first
theorem thru_con {s : Nat} {o : Option Ct} (h : Thru o) (hk : ∀ C, o = some C → OneOk s C) (g j : Nat) : conO o g j = 0 := by
  cases o with
  | none => rfl
  | some C => exact done_out (hk C rfl) (h C rfl).2 (h C rfl).1 g j
theorem all_thru (G : Gd sl c n) (h : ∀ i, i < n → Thru (c i)) (g j : Nat) : bF c n g j = 0 := by
  have := sum_same (f := fun i => conO (c i) g j) (g := fun _ => 0) n (fun i hi => thru_con (h i hi) (fun C hC => G i C hi hC) g j)
  unfold bF
  rw [this]
  have := sum_le (f := fun _ => 0) (k := 0) n (fun _ _ => Nat.le_refl _)
  omega
/-- How far one has come behind y steps. -/
def Far (y : Nat) (o : Option Ct) : Prop := ∀ C, o = some C → y ≤ C.first ∨ C.last ≤ C.first
theorem far_step {y : Nat} (h : Far y (some C)) (A : Ar) : Far (y + 1) (some (C.step A).2) := fun D hd => by
  cases hd
  have := h C rfl
  unfold Ct.step
  split
  · rcases this with e | e
    · left; dsimp only; omega
    · exfalso; omega
  · right; dsimp only; omega
theorem far_end {s y : Nat} (h : Far y (some C)) (hk : OneOk s C) (hs : s < 255) (hy : 9 ≤ y) : C.last ≤ C.first := by
  have := (kN_le hs).2
  have := hk.last
  have := hk.le
  rcases h C rfl with e | e <;> omega
end Cnt
end Go.Proofs.Ytolcpfidmpoipaa
