/- What an arena's rows are behind each call; grips, fetches and clears, plainly. No program is spoken of here. -/
import Derived.Test.YtlghinjggkgfmaaGreatClaimStep
set_option linter.unusedVariables false
set_option linter.unusedSimpArgs false
namespace Go.Proofs.YtlghinjggkgfmaaGreat
namespace Hld
open Arn Clm

/-! ### rows -/
theorem row_set (A : Ar) (blk i v k : Int) : (A.set blk i v).row k = if k = blk then (A.row blk).map (fun ws => ws.set i.toNat v) else A.row k := by
  unfold Ar.set
  by_cases hb : blk = 0
  · subst hb
    rw [if_pos rfl]
    unfold Ar.row
    by_cases hk : k = 0
    · subst hk; simp
    · simp [hk]
  · rw [if_neg hb]
    unfold Ar.row
    by_cases hk : k = 0
    · subst hk
      have : ¬ (0 : Int) = blk := fun e => hb e.symm
      simp [this]
    · rw [if_neg hk, if_neg hb, if_neg hk]
      exact look_setW A.L blk i.toNat v k
theorem row_read (A : Ar) (blk i k : Int) : (A.read blk i).1.row k = A.row k := by
  unfold Ar.read
  split <;> rfl
theorem row_write (A : Ar) (blk i v k : Int) : (A.write blk i v).1.row k = if A.err blk i = 0 ∧ k = blk then (A.row blk).map (fun ws => ws.set i.toNat v) else A.row k := by
  unfold Ar.write
  by_cases h : A.err blk i = 0
  · rw [if_pos h]
    have := row_set A blk i v k
    by_cases hk : k = blk
    · rw [if_pos ⟨h, hk⟩]
      rw [if_pos hk] at this
      exact this
    · rw [if_neg (fun e => hk e.2)]
      rw [if_neg hk] at this
      exact this
  · rw [if_neg h, if_neg (fun e => h e.1)]
    rfl
theorem ok_read {A : Ar} (h : A.Ok) (blk i : Int) : (A.read blk i).1.Ok := by
  unfold Ar.read
  split
  · exact h.tally A.faults _
  · exact h.tally _ A.t
theorem ok_write {A : Ar} (h : A.Ok) (blk i : Int) {v : Int} (hv : W64 v) : (A.write blk i v).1.Ok := by
  unfold Ar.write
  split
  · exact (h.set (blk := blk) (i := i) hv).tally _ _
  · exact h.tally _ A.t
theorem err_row {A : Ar} {blk i : Int} {l : List Int} (h : A.row blk = some l) (h0 : 0 ≤ i) (hi : i < (l.length : Int)) : A.err blk i = 0 := by
  unfold Ar.err
  rw [h]
  simp [h0, hi]
theorem read_row {A : Ar} {blk i : Int} {l : List Int} (h : A.row blk = some l) (h0 : 0 ≤ i) (hi : i < (l.length : Int)) : (A.read blk i).2 = (l.getD i.toNat 0, 0) := by
  unfold Ar.read
  rw [err_row h h0 hi, if_pos rfl]
  unfold Ar.get
  rw [h]
  rfl
theorem write_row {A : Ar} {blk i : Int} {l : List Int} (h : A.row blk = some l) (h0 : 0 ≤ i) (hi : i < (l.length : Int)) (v k : Int) : (A.write blk i v).2 = 0 ∧ (A.write blk i v).1.row k = if k = blk then some (l.set i.toNat v) else A.row k := by
  have he := err_row h h0 hi
  refine ⟨by unfold Ar.write; rw [he, if_pos rfl], ?_⟩
  rw [row_write, he]
  by_cases hk : k = blk
  · rw [if_pos ⟨rfl, hk⟩, if_pos hk, h]; rfl
  · rw [if_neg (fun e => hk e.2), if_neg hk]
theorem read_wr (A : Ar) (h : A.Ok) (blk i : Int) : W64 (A.read blk i).2.1 := by
  unfold Ar.read
  split
  · exact get_wrd h blk i
  · show W64 0
    exact ⟨by omega, by omega⟩
/-! ### what lies behind a lay -/
theorem row_lay {A : Ar} (hA : A.Ok) {ws : List Int} {k : Int} (h1 : 1 ≤ ws.length) (h2 : ws.length ≤ 2048) (h3 : used A.L + ws.length ≤ A.cap) (hb : A.births < 268435455) :
    (A.lay ws).2.2 = 0 ∧ (A.lay ws).2.1 ≠ 0 ∧ A.row (A.lay ws).2.1 = none ∧ (A.lay ws).1.row k = if k = (A.lay ws).2.1 then some ws else A.row k := by
  have e : A.lay ws = ({ A with births := A.births + 1, L := A.L.take (lead 0 A.L) ++ ⟨((A.births : Int) + 1) * 65536 + ((lead 0 A.L : Int) + 1), ws⟩ :: A.L.drop (lead 0 A.L), peak := max A.peak (used A.L + ws.length), t := { A.t with lays := A.t.lays + 1 } },
      ((A.births : Int) + 1) * 65536 + ((lead 0 A.L : Int) + 1), 0) := by
    unfold Ar.lay
    rw [if_neg (by omega), if_neg (by omega)]
  have hl := lead_le A.L 0
  have hlu := length_le_used (l := A.L) (fun x hx => (hA.len x hx).1)
  have hlc : lead 0 A.L ≤ 60000 := by have := hA.cap; have := hA.top; have := hA.peak; omega
  rw [e]
  dsimp only
  have hne : ((A.births : Int) + 1) * 65536 + ((lead 0 A.L : Int) + 1) ≠ 0 := by omega
  have hno : hasH A.L (((A.births : Int) + 1) * 65536 + ((lead 0 A.L : Int) + 1)) = false := by
    rw [hasH_false]
    intro x hx e2
    have h5 := (hA.hnd x hx).2.2
    rw [e2] at h5
    omega
  refine ⟨rfl, hne, ?_, ?_⟩
  · unfold Ar.row
    rw [if_neg hne]
    exact look_none.2 hno
  · unfold Ar.row
    dsimp only
    by_cases hk : k = 0
    · subst hk
      rw [if_pos rfl, if_neg (fun e => hne e.symm), if_pos rfl]
    · rw [if_neg hk, if_neg hk, look_mid _ _ _ _ _ hno]
/-! ### the machines -/
/-- A grip. -/
structure Gp where
  st : Nat
  seg : Int
  slot : Nat
  root : Int
  out : Int
def Gp.new (seg : Int) (slot : Nat) : Gp := ⟨1, seg, slot, 0, 0⟩
def Gp.step (C : Gp) (A : Ar) : Ar × Gp :=
  if C.st = 1 then ((A.read 0 0).1, { C with root := (A.read 0 0).2.1, st := 2 })
  else if C.st = 2 then ((A.write C.seg (5 * ofN C.slot + 3) (C.root / 1048576)).1, { C with st := 3 })
  else if C.st = 3 then ((A.read 0 0).1, { C with out := if (A.read 0 0).2.1 = C.root then 1 else 2, st := 0 })
  else (A, C)
/-- A fetch. -/
structure Fe where
  st : Nat
  seg : Int
  slot : Nat
  root : Int
  blk : Int
  n : Int
  ws : List Int
  out : Int
def Fe.new (seg : Int) (slot : Nat) (root blk n : Int) : Fe := ⟨1, seg, slot, root, blk, n, [], 0⟩
def Fe.goOn (C : Fe) : Fe := if C.n ≤ (C.ws.length : Int) then { C with out := 1, st := 0 } else { C with st := 3 }
def Fe.add (C : Fe) (x : Int) : Fe := { C with ws := C.ws ++ [x] }
def Fe.step (C : Fe) (A : Ar) : Ar × Fe :=
  if C.st = 1 then ((A.write C.seg (5 * ofN C.slot + 4) C.blk).1, { C with st := 2 })
  else if C.st = 2 then ((A.read 0 0).1, if (A.read 0 0).2.1 = C.root then C.goOn else { C with out := 2, st := 0 })
  else if C.st = 3 then ((A.read C.blk C.ws.length).1, (C.add (A.read C.blk C.ws.length).2.1).goOn)
  else (A, C)
/-- A clear. -/
structure Cr where
  st : Nat
  seg : Int
  slot : Nat
def Cr.step (C : Cr) (A : Ar) : Ar × Cr :=
  if C.st = 1 then ((A.write C.seg (5 * ofN C.slot + 3) 0).1, { C with st := 2 })
  else if C.st = 2 then ((A.write C.seg (5 * ofN C.slot + 4) 0).1, { C with st := 0 })
  else (A, C)
structure Gp.Fit (C : Gp) : Prop where
  seg : C.seg ≠ 0
  seg64 : W64 C.seg
  slot : C.slot < 255
  root : W64 C.root
  out : 0 ≤ C.out ∧ C.out ≤ 2
structure Fe.Fit (C : Fe) : Prop where
  seg : C.seg ≠ 0
  seg64 : W64 C.seg
  slot : C.slot < 255
  blk : W64 C.blk
  root : W64 C.root
  ws : ∀ x, x ∈ C.ws → W64 x
  out : 0 ≤ C.out ∧ C.out ≤ 2
structure Cr.Fit (C : Cr) : Prop where
  seg : C.seg ≠ 0
  seg64 : W64 C.seg
  slot : C.slot < 255
theorem Gp.Fit.step {C : Gp} {A : Ar} (h : C.Fit) (hA : A.Ok) : (C.step A).2.Fit := by
  obtain ⟨h1, h2, h3, h4, h5⟩ := h
  unfold Gp.step
  split
  · exact ⟨h1, h2, h3, read_wr A hA 0 0, h5⟩
  split
  · exact ⟨h1, h2, h3, h4, h5⟩
  split
  · refine ⟨h1, h2, h3, h4, ?_⟩
    dsimp only
    split <;> omega
  · exact ⟨h1, h2, h3, h4, h5⟩
theorem Fe.Fit.goOn {C : Fe} (h : C.Fit) : C.goOn.Fit := by
  obtain ⟨h1, h2, h3, h4, h5, h6, h7⟩ := h
  unfold Fe.goOn
  split
  · exact ⟨h1, h2, h3, h4, h5, h6, by dsimp only; omega⟩
  · exact ⟨h1, h2, h3, h4, h5, h6, h7⟩
theorem Fe.Fit.add {C : Fe} (h : C.Fit) {x : Int} (hx : W64 x) : (C.add x).Fit := by
  obtain ⟨h1, h2, h3, h4, h5, h6, h7⟩ := h
  refine ⟨h1, h2, h3, h4, h5, fun y hy => ?_, h7⟩
  rcases List.mem_append.1 hy with hy | hy
  · exact h6 y hy
  · rw [List.mem_singleton.1 hy]; exact hx
theorem Fe.Fit.step {C : Fe} {A : Ar} (h : C.Fit) (hA : A.Ok) : (C.step A).2.Fit := by
  have h0 := h
  obtain ⟨h1, h2, h3, h4, h5, h6, h7⟩ := h
  unfold Fe.step
  split
  · exact ⟨h1, h2, h3, h4, h5, h6, h7⟩
  split
  · dsimp only
    split
    · exact h0.goOn
    · exact ⟨h1, h2, h3, h4, h5, h6, by dsimp only; omega⟩
  split
  · exact (h0.add (read_wr A hA _ _)).goOn
  · exact h0
theorem Cr.Fit.step {C : Cr} {A : Ar} (h : C.Fit) : (C.step A).2.Fit := by
  obtain ⟨h1, h2, h3⟩ := h
  unfold Cr.step
  split
  · exact ⟨h1, h2, h3⟩
  split
  · exact ⟨h1, h2, h3⟩
  · exact ⟨h1, h2, h3⟩
end Hld
end Go.Proofs.YtlghinjggkgfmaaGreat
