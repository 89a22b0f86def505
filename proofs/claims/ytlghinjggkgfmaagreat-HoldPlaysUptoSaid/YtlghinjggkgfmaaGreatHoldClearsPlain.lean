/- What HoldClears goes by: the words of the slots 0, 1, 2. No program is spoken of here. -/
import Derived.Test.YtlghinjggkgfmaaGreatHoldSegs
import Derived.Test.YtlghinjggkgfmaaGreatCountPlain
set_option linter.unusedVariables false
set_option linter.unusedSimpArgs false
namespace Go.Proofs.YtlghinjggkgfmaaGreat
namespace Hld
open Arn Clm Cnt

def sgQ (p : Nat) : Int := if p = 0 then 65537 else 131074
def ixQ (p f : Nat) : Nat := if p = 2 then 5 + f else f
def up2 (val : Nat → Nat → Int) (p f : Nat) (v : Int) : Nat → Nat → Int := fun p' f' => if p' = p ∧ f' = f then v else val p' f'
/-- The words of the slots 0, 1, 2: val p f is the word f of the slot p. -/
structure WV (A : Ar) (val : Nat → Nat → Int) : Prop where
  ok : A.Ok
  r0 : ∃ l, A.row 65537 = some l ∧ l.length = 7 ∧ ∀ f, f < 5 → l.getD f 0 = val 0 f
  r1 : ∃ l, A.row 131074 = some l ∧ l.length = 14 ∧ ∀ f, f < 5 → l.getD f 0 = val 1 f ∧ l.getD (5 + f) 0 = val 2 f
variable {A : Ar} {val : Nat → Nat → Int} {p f : Nat} {v : Int}
theorem adr_q (hp : p < 3) (f : Nat) : 5 * (ofN p : Int) + (f : Int) = (ixQ p f : Int) := by
  have h : ∀ x : Fin 3, ofN x.val = if x.val = 2 then 1 else 0 := by decide
  have := h ⟨p, hp⟩
  dsimp only at this
  rw [this]
  unfold ixQ
  split <;> omega
theorem WV.rows (H : WV A val) (hp : p < 3) (hf : f < 5) : ∃ l, A.row (sgQ p) = some l ∧ ixQ p f < l.length ∧ l.getD (ixQ p f) 0 = val p f := by
  obtain ⟨l, a1, a2, a3⟩ := H.r0
  obtain ⟨m, b1, b2, b3⟩ := H.r1
  have : p = 0 ∨ p = 1 ∨ p = 2 := by omega
  rcases this with rfl | rfl | rfl
  · exact ⟨l, a1, by show f < _; omega, a3 f hf⟩
  · exact ⟨m, b1, by show f < _; omega, (b3 f hf).1⟩
  · exact ⟨m, b1, by show 5 + f < _; omega, (b3 f hf).2⟩
theorem WV.get (H : WV A val) (hp : p < 3) (hf : f < 5) : (A.read (sgQ p) (ixQ p f : Int)).2 = (val p f, 0) := by
  obtain ⟨l, h1, h2, h3⟩ := H.rows hp hf
  rw [read_row h1 (by omega) (by omega), Int.toNat_natCast, h3]
theorem WV.read (H : WV A val) (blk i : Int) : WV (A.read blk i).1 val ∧ (A.read blk i).1.t.writes = A.t.writes := by
  obtain ⟨h1, h2, h3⟩ := H
  refine ⟨⟨ok_read h1 blk i, by rw [row_read]; exact h2, by rw [row_read]; exact h3⟩, ?_⟩
  unfold Ar.read
  split <;> rfl
theorem set_t (A : Ar) (blk i v : Int) : (A.set blk i v).t = A.t := by
  unfold Ar.set; split <;> rfl
theorem WV.put (H : WV A val) (hp : p < 3) (hf : f < 5) (hv : W64 v) : WV (A.write (sgQ p) (ixQ p f : Int) v).1 (up2 val p f v) ∧ (A.write (sgQ p) (ixQ p f : Int) v).1.t.writes = A.t.writes + 1 := by
  obtain ⟨l0, h1, h2, h3⟩ := H.rows hp hf
  have hw := fun k => (write_row h1 (i := (ixQ p f : Int)) (by omega) (by omega) v k).2
  have he := err_row h1 (i := (ixQ p f : Int)) (by omega) (by omega)
  refine ⟨?_, by unfold Ar.write; rw [if_pos he]⟩
  obtain ⟨hok, ⟨l, a1, a2, a3⟩, ⟨m, b1, b2, b3⟩⟩ := H
  have hne : (65537 : Int) ≠ 131074 := by omega
  have hne2 : (131074 : Int) ≠ 65537 := by omega
  have : p = 0 ∨ p = 1 ∨ p = 2 := by omega
  rcases this with rfl | rfl | rfl
  · have el : l0 = l := by rw [show sgQ 0 = 65537 from rfl, a1] at h1; cases h1; rfl
    subst el
    have hw : ∀ k, (A.write (sgQ 0) (ixQ 0 f : Int) v).1.row k = if k = 65537 then some (l0.set f v) else A.row k := hw
    refine ⟨ok_write hok _ _ hv, ⟨l0.set f v, ?_, by rw [List.length_set]; exact a2, fun f' hf' => ?_⟩, ⟨m, ?_, b2, fun f' hf' => ?_⟩⟩
    · rw [hw, if_pos rfl]
    · rw [set_getD _ _ _ _ (by omega), a3 f' hf']; unfold up2; simp
    · rw [hw, if_neg hne2]; exact b1
    · unfold up2; simp only [Nat.succ_ne_zero, false_and, if_false, (show (1:Nat) ≠ 0 by omega), (show (2:Nat) ≠ 0 by omega)]; exact b3 f' hf'
  · have el : l0 = m := by rw [show sgQ 1 = 131074 from rfl, b1] at h1; cases h1; rfl
    subst el
    have hw : ∀ k, (A.write (sgQ 1) (ixQ 1 f : Int) v).1.row k = if k = 131074 then some (l0.set f v) else A.row k := hw
    refine ⟨ok_write hok _ _ hv, ⟨l, ?_, a2, fun f' hf' => ?_⟩, ⟨l0.set f v, ?_, by rw [List.length_set]; exact b2, fun f' hf' => ⟨?_, ?_⟩⟩⟩
    · rw [hw, if_neg hne]; exact a1
    · unfold up2; simp only [(show (0:Nat) ≠ 1 by omega), false_and, if_false]; exact a3 f' hf'
    · rw [hw, if_pos rfl]
    · rw [set_getD _ _ _ _ (by omega), (b3 f' hf').1]; unfold up2; simp
    · rw [set_getD _ _ _ _ (by omega), if_neg (by omega), (b3 f' hf').2]; unfold up2; simp
  · have el : l0 = m := by rw [show sgQ 2 = 131074 from rfl, b1] at h1; cases h1; rfl
    subst el
    have hw : ∀ k, (A.write (sgQ 2) (ixQ 2 f : Int) v).1.row k = if k = 131074 then some (l0.set (5 + f) v) else A.row k := hw
    refine ⟨ok_write hok _ _ hv, ⟨l, ?_, a2, fun f' hf' => ?_⟩, ⟨l0.set (5 + f) v, ?_, by rw [List.length_set]; exact b2, fun f' hf' => ⟨?_, ?_⟩⟩⟩
    · rw [hw, if_neg hne]; exact a1
    · unfold up2; simp only [(show (0:Nat) ≠ 2 by omega), false_and, if_false]; exact a3 f' hf'
    · rw [hw, if_pos rfl]
    · rw [set_getD _ _ _ _ (by omega), if_neg (by omega), (b3 f' hf').1]; unfold up2; simp
    · rw [set_getD _ _ _ _ (by omega), (b3 f' hf').2]; unfold up2; simp
theorem wv_start (S : SegA A 2 zF) : WV A (fun _ _ => 0) := by
  have h0 : hS 0 = 65537 := rfl
  have h1 : hS 1 = 131074 := rfl
  have e0 := S.row (g := 0) (by omega)
  have e1 := S.row (g := 1) (by omega)
  rw [h0] at e0
  rw [h1] at e1
  refine ⟨S.ok, ⟨_, e0, rowF_len _ _, fun f hf => ?_⟩, ⟨_, e1, rowF_len _ _, fun f hf => ⟨?_, ?_⟩⟩⟩
  · rw [rowF_get _ (by show f < 7; omega)]; rfl
  · rw [rowF_get _ (by show f < 14; omega)]; rfl
  · rw [rowF_get _ (by show 5 + f < 14; omega)]; rfl
/-- What the words are behind j steps of a clear of the slot p. -/
def valC (val : Nat → Nat → Int) (p j : Nat) : Nat → Nat → Int := if j = 0 then val else if j = 1 then up2 val p 3 0 else up2 (up2 val p 3 0) p 4 0
def crC (p j : Nat) : Cr := ⟨if j = 0 then 1 else if j = 1 then 2 else 0, sgQ p, p⟩
theorem sgQ_ne (p : Nat) : sgQ p ≠ 0 := by unfold sgQ; split <;> omega
theorem sgQ_64 (p : Nat) : W64 (sgQ p) := by unfold sgQ W64; split <;> omega
theorem crC_fit (hp : p < 3) (j : Nat) : (crC p j).Fit := ⟨sgQ_ne p, sgQ_64 p, by show p < 255; omega⟩
theorem zero64 : W64 0 := ⟨by omega, by omega⟩
theorem crC_step {j : Nat} (H : WV A (valC val p j)) (hp : p < 3) : WV ((crC p j).step A).1 (valC val p (j + 1)) ∧ ((crC p j).step A).1.t.writes = A.t.writes + (if j < 2 then 1 else 0) ∧ ((crC p j).step A).2 = crC p (j + 1) := by
  by_cases h0 : j = 0
  · subst h0
    obtain ⟨h1, h2⟩ := H.put hp (f := 3) (by omega) (v := 0) zero64
    have e := adr_q hp 3
    have es : (crC p 0).step A = ((A.write (sgQ p) (5 * (ofN p : Int) + ((3 : Nat) : Int)) 0).1, crC p 1) := rfl
    rw [es, e]
    exact ⟨h1, h2, rfl⟩
  by_cases h1 : j = 1
  · subst h1
    obtain ⟨h1, h2⟩ := H.put hp (f := 4) (by omega) (v := 0) zero64
    have e := adr_q hp 4
    have es : (crC p 1).step A = ((A.write (sgQ p) (5 * (ofN p : Int) + ((4 : Nat) : Int)) 0).1, crC p 2) := rfl
    rw [es, e]
    exact ⟨h1, h2, rfl⟩
  · have e1 : crC p j = crC p 2 := by unfold crC; rw [if_neg h0, if_neg h1]; rfl
    have e2 : crC p (j + 1) = crC p 2 := by unfold crC; rw [if_neg (by omega), if_neg (by omega)]; rfl
    have e3 : valC val p (j + 1) = valC val p j := by unfold valC; rw [if_neg h0, if_neg h1, if_neg (by omega), if_neg (by omega)]
    have es : (crC p 2).step A = (A, crC p 2) := rfl
    rw [e1, e2, e3, es, if_neg (by omega)]
    exact ⟨H, rfl, rfl⟩
theorem valC_end (val : Nat → Nat → Int) (p q f : Nat) : valC val p 5 q f = if q = p ∧ (f = 3 ∨ f = 4) then 0 else val q f := by
  unfold valC up2
  rw [if_neg (by omega), if_neg (by omega)]
  by_cases h : q = p
  · subst h
    by_cases h4 : f = 4
    · simp [h4]
    · by_cases h3 : f = 3
      · simp [h3]
      · simp [h3, h4]
  · simp [h]
end Hld
end Go.Proofs.YtlghinjggkgfmaaGreat
