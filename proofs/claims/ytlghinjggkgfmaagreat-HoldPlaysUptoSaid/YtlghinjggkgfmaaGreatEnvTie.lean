/- The document's environment of programs of accesses, plainly: what was answered so far is answered again, one access is done anew, at the next one it stops. No program is spoken of here. -/
/- A program of accesses that is gone through anew: at which place it stands after so many of them. No program is spoken of here. -/
import Derived.Test.YtlghinjggkgfmaaGreatArenaPlain
set_option linter.unusedVariables false
set_option linter.unusedSimpArgs false
namespace Go.Proofs.YtlghinjggkgfmaaGreat
namespace Evn
open Arn

structure Res where
  w : Int
  ok : Bool
  e : Int
def Res.zero : Res := ⟨0, false, 0⟩
structure En where
  A : Ar
  log : List Res
  at_ : Nat
  did : Bool
  stop : Bool
def En.begin (E : En) (A : Ar) : En := ⟨A, E.log, 0, false, false⟩
def En.oldE (E : En) : En :=
  if E.stop = true then E
  else if E.at_ < E.log.length then { E with at_ := E.at_ + 1 }
  else if E.did = true then { E with at_ := E.at_ + 1, stop := true }
  else { E with at_ := E.at_ + 1, did := true }
def En.oldR (E : En) : Res := if E.stop = true then Res.zero else if E.at_ < E.log.length then E.log.getD E.at_ Res.zero else Res.zero
def En.oldB (E : En) : Bool := if E.stop = true then true else if E.at_ < E.log.length then true else E.did
def En.acc (E : En) (f : Ar → Ar × Res) : En × Res :=
  if E.oldB = true then (E.oldE, E.oldR) else ({ E.oldE with A := (f E.A).1, log := E.log ++ [(f E.A).2] }, (f E.A).2)
def aRead (blk i : Int) (A : Ar) : Ar × Res := ((A.read blk i).1, ⟨(A.read blk i).2.1, false, 0⟩)
def aWrite (blk i v : Int) (A : Ar) : Ar × Res := ((A.write blk i v).1, Res.zero)
def aSwap (blk i o v : Int) (A : Ar) : Ar × Res := ((A.swap blk i o v).1, ⟨0, (A.swap blk i o v).2.1, 0⟩)
def aAdd (blk i n : Int) (A : Ar) : Ar × Res := ((A.add blk i n).1, ⟨(A.add blk i n).2.1, false, 0⟩)
def aLay (ws : List Int) (A : Ar) : Ar × Res := ((A.lay ws).1, ⟨(A.lay ws).2.1, false, (A.lay ws).2.2⟩)
def aFree (h : Int) (A : Ar) : Ar × Res := ((A.free h).1, Res.zero)
theorem old_fresh {E : En} (h : E.oldB = false) : E.stop = false ∧ E.log.length ≤ E.at_ ∧ E.did = false ∧ E.oldE = { E with at_ := E.at_ + 1, did := true } := by
  unfold En.oldB at h
  split at h
  · cases h
  · rename_i h1
    split at h
    · cases h
    · rename_i h2
      refine ⟨by simpa using h1, by omega, h, ?_⟩
      unfold En.oldE
      rw [if_neg h1, if_neg h2, if_neg (by rw [h]; simp)]
theorem oldE_same (E : En) : E.oldE.A = E.A ∧ E.oldE.log = E.log := by
  unfold En.oldE
  repeat' split
  all_goals exact ⟨rfl, rfl⟩
theorem oldR_of {E : En} (h : E.oldB = false) : E.oldR = Res.zero := by
  obtain ⟨h1, h2, h3, h4⟩ := old_fresh h
  unfold En.oldR
  rw [if_neg (by rw [h1]; simp), if_neg (by omega)]
end Evn
end Go.Proofs.YtlghinjggkgfmaaGreat

set_option linter.unusedVariables false
set_option linter.unusedSimpArgs false
namespace Go.Proofs.YtlghinjggkgfmaaGreat
namespace Evn
open Arn

/-- The environment after i accesses: L are the elder answers, r the one that is got anew upon A. -/
def posE (A A' : Ar) (L : List Res) (r : Res) (i : Nat) : En := if i ≤ L.length then ⟨A, L, i, false, false⟩ else ⟨A', L ++ [r], L.length + 1, true, false⟩
/-- .. and where it has stopped. -/
def endE (A' : Ar) (L : List Res) (r : Res) : En := ⟨A', L ++ [r], L.length + 2, true, true⟩
def ansE (L : List Res) (r : Res) (i : Nat) : Res := (L ++ [r]).getD i Res.zero
theorem begin_pos (E : En) (A A' : Ar) (r : Res) : E.begin A = posE A A' E.log r 0 := by
  unfold posE En.begin
  rw [if_pos (Nat.zero_le _)]
theorem pos_le {A A' : Ar} {L : List Res} {r : Res} {i : Nat} (h : i ≤ L.length) : posE A A' L r i = ⟨A, L, i, false, false⟩ := by unfold posE; rw [if_pos h]
theorem pos_new {A A' : Ar} {L : List Res} {r : Res} : posE A A' L r (L.length + 1) = ⟨A', L ++ [r], L.length + 1, true, false⟩ := by unfold posE; rw [if_neg (by omega)]
/-- An access at a place ahead of the last one. -/
theorem acc_at {A A' : Ar} {L : List Res} {r : Res} {i : Nat} (f : Ar → Ar × Res) (hi : i ≤ L.length) (hf : i = L.length → f A = (A', r)) : (posE A A' L r i).acc f = (posE A A' L r (i + 1), ansE L r i) := by
  by_cases h : i = L.length
  · subst h
    rw [pos_le (Nat.le_refl _), pos_new]
    unfold En.acc En.oldB En.oldE ansE
    simp [hf rfl]
  · have hlt : i < L.length := by omega
    rw [pos_le hi, pos_le hlt]
    unfold En.acc En.oldB En.oldE En.oldR ansE
    simp [hlt, List.getElem?_append_left hlt]
/-- The access behind the new one: it stops. -/
theorem acc_end {A A' : Ar} {L : List Res} {r : Res} (f : Ar → Ar × Res) : (posE A A' L r (L.length + 1)).acc f = (endE A' L r, Res.zero) := by
  rw [pos_new]
  unfold En.acc En.oldB En.oldE En.oldR endE
  simp
/-- What comes of a state behind so many answers. -/
def stAt {σ : Type} (next : σ → Res → σ) (s0 : σ) (L : List Res) (r : Res) (i : Nat) : σ := ((L ++ [r]).take i).foldl next s0
theorem stAt_zero {σ : Type} (next : σ → Res → σ) (s0 : σ) (L : List Res) (r : Res) : stAt next s0 L r 0 = s0 := rfl
theorem stAt_succ {σ : Type} (next : σ → Res → σ) (s0 : σ) (L : List Res) (r : Res) {i : Nat} (hi : i ≤ L.length) : stAt next s0 L r (i + 1) = next (stAt next s0 L r i) (ansE L r i) := by
  unfold stAt ansE
  have hl : i < (L ++ [r]).length := by simp; omega
  have h1 : (L ++ [r]).take (i + 1) = (L ++ [r]).take i ++ [(L ++ [r])[i]] := by
    rw [List.take_add_one, List.getElem?_eq_getElem hl]; rfl
  rw [h1, List.foldl_append, List.getD_eq_getElem?_getD, List.getElem?_eq_getElem hl]
  rfl
theorem stAt_last {σ : Type} (next : σ → Res → σ) (s0 : σ) (L : List Res) (r : Res) : stAt next s0 L r (L.length + 1) = next (L.foldl next s0) r ∧ stAt next s0 L r L.length = L.foldl next s0 := by
  unfold stAt
  constructor
  · rw [List.take_of_length_le (by simp)]
    simp
  · rw [List.take_left']
    rfl
end Evn
end Go.Proofs.YtlghinjggkgfmaaGreat
