/- A claim, plainly; the segments, the slots' owners and the private blocks of those that claim. No program is spoken of here. -/
/- What a step of one that claims makes of the arena, the segments and the owners. No program is spoken of here. -/
import Derived.Test.YtpajafecodkndaaGreatArenaPlain
set_option linter.unusedVariables false
set_option linter.unusedSimpArgs false
namespace Go.Proofs.YtpajafecodkndaaGreat
namespace Clm
open Arn

/-- The segment of a slot, and its offset. -/
def sgN (s : Nat) : Nat := Nat.log2 (s + 1)
def ofN (s : Nat) : Nat := s + 1 - 2 ^ sgN s
theorem sg_fin : ∀ s : Fin 255, sgN s.val < 8 ∧ 2 ^ sgN s.val ≤ s.val + 1 ∧ s.val + 1 < 2 * 2 ^ sgN s.val := by decide +kernel
theorem sg_facts {s : Nat} (h : s < 255) : sgN s < 8 ∧ 2 ^ sgN s - 1 + ofN s = s ∧ ofN s < 2 ^ sgN s ∧ 1 ≤ 2 ^ sgN s ∧ 2 ^ sgN s ≤ 128 := by
  obtain ⟨h1, h2, h3⟩ := sg_fin ⟨s, h⟩
  dsimp only at h1 h2 h3
  have h4 : 1 ≤ 2 ^ sgN s := Nat.one_le_two_pow
  unfold ofN
  have h5 : 2 ^ sgN s ≤ 2 ^ 7 := Nat.pow_le_pow_right (by omega) (by omega)
  refine ⟨h1, by omega, by omega, h4, by omega⟩
theorem sg_of_fin : ∀ g : Fin 8, ∀ o : Fin 128, o.val < 2 ^ g.val → sgN (2 ^ g.val - 1 + o.val) = g.val := by decide +kernel
theorem sg_of {g o : Nat} (hg : g < 8) (ho : o < 2 ^ g) : sgN (2 ^ g - 1 + o) = g ∧ ofN (2 ^ g - 1 + o) = o ∧ 2 ^ g - 1 + o < 255 := by
  have h5 : 2 ^ g ≤ 2 ^ 7 := Nat.pow_le_pow_right (by omega) (by omega)
  have h6 : 1 ≤ 2 ^ g := Nat.one_le_two_pow
  have h := sg_of_fin ⟨g, hg⟩ ⟨o, by omega⟩ ho
  dsimp only at h
  refine ⟨h, ?_, by omega⟩
  unfold ofN
  rw [h]; omega
/-- Where no segment begins, the slot lies in the one of the slot ahead. -/
theorem sg_next_fin : ∀ s : Fin 254, ofN (s.val + 1) ≠ 0 → sgN (s.val + 1) = sgN s.val := by decide +kernel
theorem sg_next {s : Nat} (h : s < 254) (h1 : ofN (s + 1) ≠ 0) : sgN (s + 1) = sgN s := sg_next_fin ⟨s, h⟩ h1

end Clm
namespace Arn
/-! ### what stands in an arena behind a call -/
theorem look_setW (l : List Blk) (h : Int) (i : Nat) (v k : Int) : look (setW l h i v) k = if k = h then (look l h).map (fun ws => ws.set i v) else look l k := by
  induction l with
  | nil => simp [look, setW]
  | cons x t ih =>
    unfold look setW at ih ⊢
    simp only [List.map_cons, List.find?_cons]
    by_cases hx : x.h = h
    · subst hx
      by_cases hk : k = x.h
      · subst hk; simp
      · have : (x.h == k) = false := by simp; exact fun e => hk e.symm
        simp only [if_pos, this, if_neg hk]
        rw [if_neg hk] at ih
        exact ih
    · simp only [if_neg hx]
      by_cases hk : x.h = k
      · subst hk
        simp [hx]
      · have h1 : (x.h == k) = false := by simp [hk]
        have h2 : (x.h == h) = false := by simp [hx]
        simp only [h1, h2]
        exact ih
theorem look_drop (l : List Blk) (h k : Int) : look (drop l h) k = if k = h then none else look l k := by
  induction l with
  | nil => simp [look, drop]
  | cons x t ih =>
    unfold look drop at ih ⊢
    simp only [List.filter_cons]
    by_cases hx : x.h = h
    · subst hx
      by_cases hk : k = x.h
      · subst hk; simp at ih ⊢; first | done | exact ih
      · have : (x.h == k) = false := by simp; exact fun e => hk e.symm
        rw [if_neg hk] at ih ⊢
        simp only [beq_self_eq_true, Bool.not_true, Bool.false_eq_true, if_false, List.find?_cons, this]
        exact ih
    · have h2 : (x.h == h) = false := by simp [hx]
      simp only [h2, Bool.not_false, if_true, List.find?_cons]
      by_cases hk : x.h = k
      · subst hk
        simp [hx]
      · have h1 : (x.h == k) = false := by simp [hk]
        simp only [h1]
        exact ih
theorem look_mid (l : List Blk) (n : Nat) (H : Int) (ws : List Int) (k : Int) (hn : hasH l H = false) : look (l.take n ++ ⟨H, ws⟩ :: l.drop n) k = if k = H then some ws else look l k := by
  have key : ∀ (a b : List Blk), hasH (a ++ b) H = false → look (a ++ ⟨H, ws⟩ :: b) k = if k = H then some ws else look (a ++ b) k := by
    intro a
    induction a with
    | nil =>
      intro b hb
      unfold look
      simp only [List.nil_append, List.find?_cons]
      by_cases hk : k = H
      · subst hk; simp
      · have : (H == k) = false := by simp; exact fun e => hk e.symm
        simp [this, hk]
    | cons x t ih =>
      intro b hb
      have hb' : x.h ≠ H ∧ hasH (t ++ b) H = false := by
        rw [hasH_false] at hb
        refine ⟨hb x (by simp), hasH_false.2 fun y hy => hb y (by simp at hy ⊢; exact .inr hy)⟩
      have ih' := ih b hb'.2
      unfold look at ih' ⊢
      simp only [List.cons_append, List.find?_cons]
      by_cases hk : x.h = k
      · subst hk
        simp [hb'.1]
      · have h1 : (x.h == k) = false := by simp [hk]
        simp only [h1]
        exact ih'
  have h2 := key (l.take n) (l.drop n) (by rw [List.take_append_drop]; exact hn)
  rw [List.take_append_drop] at h2
  exact h2
theorem used_drop {A : Ar} (ok : A.Ok) {h : Int} {ws : List Int} (hl : look A.L h = some ws) : used (drop A.L h) + ws.length = used A.L := by
  have key : ∀ l : List Blk, (l.Pairwise fun x y => x.h % 65536 < y.h % 65536) → look l h = some ws → used (drop l h) + ws.length = used l := by
    intro l
    induction l with
    | nil => intro _ h; simp [look] at h
    | cons x t ih =>
      intro hp hk
      obtain ⟨h1, h2⟩ := List.pairwise_cons.1 hp
      unfold look at hk
      unfold drop
      simp only [List.find?_cons] at hk
      simp only [List.filter_cons]
      by_cases hx : x.h = h
      · subst hx
        simp at hk
        subst hk
        have : t.filter (fun y => !(y.h == x.h)) = t := by
          rw [List.filter_eq_self]
          intro y hy
          have := h1 y hy
          simp
          intro e
          rw [e] at this
          omega
        simp only [beq_self_eq_true, Bool.not_true, Bool.false_eq_true, if_false, this, used]
        omega
      · have h3 : (x.h == h) = false := by simp [hx]
        rw [h3] at hk
        have := ih h2 hk
        unfold drop at this
        simp only [h3, Bool.not_false, if_true, used]
        omega
  exact key _ ok.rise hl

end Arn
namespace Clm
open Arn
/-! ### a claim -/
structure Cl where
  st : Nat
  tok : Int
  seg : Int
  slot : Nat
  own : Bool
  laid : Int
  err : Int
def Cl.new (tok : Int) : Cl := if tok = 0 then ⟨0, 0, 0, 0, false, 0, 2⟩ else ⟨1, tok, 0, 0, false, 0, 0⟩
def Cl.turn (C : Cl) (s : Nat) : Cl := if 255 ≤ s then { C with st := 0, err := 12 } else { C with slot := s, st := if ofN s = 0 then 1 else 5 }
def Cl.step (C : Cl) (A : Ar) : Ar × Cl :=
  if C.st = 1 then ((A.read 0 (1 + sgN C.slot)).1, if (A.read 0 (1 + sgN C.slot)).2.1 = 0 then { C with st := 2 } else { C with seg := (A.read 0 (1 + sgN C.slot)).2.1, st := 5 })
  else if C.st = 2 then ((A.lay (List.replicate (7 * 2 ^ sgN C.slot) 0)).1, if (A.lay (List.replicate (7 * 2 ^ sgN C.slot) 0)).2.2 = 0 then { C with laid := (A.lay (List.replicate (7 * 2 ^ sgN C.slot) 0)).2.1, st := 3 } else { C with err := (A.lay (List.replicate (7 * 2 ^ sgN C.slot) 0)).2.2, st := 0 })
  else if C.st = 3 then ((A.swap 0 (1 + sgN C.slot) 0 C.laid).1, if (A.swap 0 (1 + sgN C.slot) 0 C.laid).2.1 = true then { C with seg := C.laid, laid := 0, st := 5 } else { C with st := 4 })
  else if C.st = 4 then ((A.free C.laid).1, { C with laid := 0, st := 1 })
  else if C.st = 5 then ((A.swap C.seg (5 * ofN C.slot) 0 C.tok).1, if (A.swap C.seg (5 * ofN C.slot) 0 C.tok).2.1 = true then { C with own := true, st := 0 } else ({ C with own := false } : Cl).turn (C.slot + 1))
  else (A, C)
/-- What the segments' handles, the slots' owners and a claim become; f: a fresh handle. -/
def upd {α : Type} (f : Nat → α) (i : Nat) (v : α) : Nat → α := fun j => if j = i then v else f j
theorem upd_at {α : Type} (f : Nat → α) (i : Nat) (v : α) : upd f i v i = v := by simp [upd]
theorem upd_ne {α : Type} (f : Nat → α) {i j : Nat} (v : α) (h : j ≠ i) : upd f i v j = f j := by simp [upd, h]
def astep (h own : Nat → Int) (C : Cl) (f : Int) : (Nat → Int) × (Nat → Int) × Cl :=
  if C.st = 1 then (h, own, if h (sgN C.slot) = 0 then { C with st := 2 } else { C with seg := h (sgN C.slot), st := 5 })
  else if C.st = 2 then (h, own, { C with laid := f, st := 3 })
  else if C.st = 3 then (if h (sgN C.slot) = 0 then (upd h (sgN C.slot) C.laid, own, { C with seg := C.laid, laid := 0, st := 5 }) else (h, own, { C with st := 4 }))
  else if C.st = 4 then (h, own, { C with laid := 0, st := 1 })
  else if C.st = 5 then (if own C.slot = 0 then (h, upd own C.slot C.tok, { C with own := true, st := 0 }) else (h, own, ({ C with own := false } : Cl).turn (C.slot + 1)))
  else (h, own, C)
def sumTo (f : Nat → Nat) : Nat → Nat
  | 0 => 0
  | n + 1 => sumTo f n + f n
theorem sum_same {f g : Nat → Nat} : ∀ n, (∀ i, i < n → f i = g i) → sumTo f n = sumTo g n := by
  intro n
  induction n with
  | zero => intro _; rfl
  | succ n ih => intro h; simp only [sumTo]; rw [ih (fun i hi => h i (by omega)), h n (by omega)]
theorem sum_upd {f g : Nat → Nat} : ∀ n i, i < n → (∀ j, j ≠ i → g j = f j) → sumTo g n + f i = sumTo f n + g i := by
  intro n
  induction n with
  | zero => intro i hi; omega
  | succ n ih =>
    intro i hi h
    simp only [sumTo]
    by_cases e : i = n
    · subst e
      rw [sum_same (f := g) (g := f) i (fun j hj => h j (by omega))]
      omega
    · have h1 := ih i (by omega) h
      have h2 := h n (by omega)
      omega
theorem sum_le {f : Nat → Nat} {k : Nat} : ∀ n, (∀ i, i < n → f i ≤ k) → sumTo f n ≤ n * k := by
  intro n
  induction n with
  | zero => intro _; simp [sumTo]
  | succ n ih =>
    intro h
    have h1 := ih (fun i hi => h i (by omega))
    have h2 := h n (by omega)
    simp only [sumTo]
    rw [Nat.succ_mul]; omega
def segSize (h : Nat → Int) (g : Nat) : Nat := if h g = 0 then 0 else 7 * 2 ^ g
def pvSize (c : Nat → Option Cl) (i : Nat) : Nat := match c i with
  | none => 0
  | some C => if C.laid = 0 then 0 else 7 * 2 ^ sgN C.slot
structure Cl.Good (C : Cl) (h : Nat → Int) : Prop where
  tok : C.tok ≠ 0
  tok64 : W64 C.tok
  slot : C.slot < 255
  st : C.st ≤ 5
  laid : (C.st = 3 ∨ C.st = 4) ↔ C.laid ≠ 0
  laid64 : W64 C.laid
  seg64 : W64 C.seg
  seg : C.st = 5 ∨ C.own = true → C.seg = h (sgN C.slot) ∧ C.seg ≠ 0
  own : C.own = true → C.st = 0
/-- An arena with segments h, owners own, and those that claim: c 0, .., c (n - 1). -/
structure Inv (A : Ar) (h own : Nat → Int) (c : Nat → Option Cl) (n : Nat) : Prop where
  ok : A.Ok
  clean : A.faults = 0
  fix : ∀ g, g < 8 → A.fixed.getD (1 + g) 0 = h g
  seg : ∀ g, g < 8 → h g ≠ 0 → ∃ ws, Arn.look A.L (h g) = some ws ∧ ws.length = 7 * 2 ^ g ∧ ∀ o, o < 2 ^ g → ws.getD (5 * o) 0 = own (2 ^ g - 1 + o)
  non : ∀ s, s < 255 → h (sgN s) = 0 → own s = 0
  inj : ∀ g g', g < 8 → g' < 8 → h g ≠ 0 → h g = h g' → g = g'
  prv : ∀ i C, i < n → c i = some C → C.laid ≠ 0 → Arn.look A.L C.laid = some (List.replicate (7 * 2 ^ sgN C.slot) 0) ∧ ∀ g, g < 8 → h g ≠ C.laid
  apart : ∀ i j C D, i < n → j < n → i ≠ j → c i = some C → c j = some D → C.laid ≠ 0 → C.laid ≠ D.laid
  use : Arn.used A.L = sumTo (segSize h) 8 + sumTo (pvSize c) n
  good : ∀ i C, i < n → c i = some C → C.Good h
/-- Room for all that may be asked for. -/
def Room (A : Ar) (n : Nat) : Prop := 1785 + n * 896 ≤ A.cap
theorem segs_le (h : Nat → Int) : sumTo (segSize h) 8 ≤ 1785 := by
  have e : ∀ g, segSize h g ≤ 7 * 2 ^ g := fun g => by unfold segSize; split <;> omega
  have := e 0; have := e 1; have := e 2; have := e 3; have := e 4; have := e 5; have := e 6; have := e 7
  simp only [sumTo]
  omega
theorem pvs_le {c : Nat → Option Cl} {h : Nat → Int} {n : Nat} (hg : ∀ i C, i < n → c i = some C → C.Good h) : ∀ i, i < n → pvSize c i ≤ 896 := by
  intro i hi
  unfold pvSize
  cases hc : c i with
  | none => simp
  | some C =>
    dsimp only
    have := (sg_facts (hg i C hi hc).slot).2.2.2.2
    split <;> omega
end Clm
end Go.Proofs.YtpajafecodkndaaGreat

set_option linter.unusedVariables false
set_option linter.unusedSimpArgs false
namespace Go.Proofs.YtpajafecodkndaaGreat
namespace Clm
open Arn

variable {A : Ar} {h own : Nat → Int} {c : Nat → Option Cl} {n : Nat}
theorem Inv.h_row (I : Inv A h own c n) {g : Nat} (hg : g < 8) : A.row 0 = some A.fixed ∧ A.err 0 (1 + g) = 0 ∧ A.get 0 (1 + g) = h g := by
  have e1 : A.row 0 = some A.fixed := by unfold Ar.row; rw [if_pos rfl]
  have h9 := I.ok.nine
  refine ⟨e1, ?_, ?_⟩
  · unfold Ar.err; rw [e1]; dsimp only; rw [if_pos ⟨by omega, by rw [h9]; omega⟩]
  · unfold Ar.get
    rw [e1]
    have : ((1 : Int) + (g : Int)).toNat = 1 + g := by omega
    rw [this]
    exact I.fix g hg
theorem Inv.w_row (I : Inv A h own c n) {s : Nat} (hs : s < 255) (hh : h (sgN s) ≠ 0) : A.err (h (sgN s)) (5 * ofN s) = 0 ∧ A.get (h (sgN s)) (5 * ofN s) = own s := by
  obtain ⟨q1, q2, q3, q4, q5⟩ := sg_facts hs
  obtain ⟨ws, hl, hn, hw⟩ := I.seg _ q1 hh
  have e1 : A.row (h (sgN s)) = some ws := by unfold Ar.row; rw [if_neg hh]; exact hl
  refine ⟨?_, ?_⟩
  · unfold Ar.err; rw [e1]; dsimp only; rw [if_pos ⟨by omega, by rw [hn]; omega⟩]
  · unfold Ar.get
    rw [e1]
    have : ((5 : Int) * (ofN s : Int)).toNat = 5 * ofN s := by omega
    rw [this]
    have := hw _ q3
    rw [q2] at this
    exact this
/-- Only counters turn. -/
theorem Inv.tally (I : Inv A h own c n) (t : Tal) : Inv { A with t := t } h own c n :=
  ⟨I.ok.tally A.faults t, I.clean, I.fix, I.seg, I.non, I.inj, I.prv, I.apart, I.use, I.good⟩
/-- A claim becomes another one with the same private block. -/
theorem Inv.put (I : Inv A h own c n) {i : Nat} {C C' : Cl} (hi : i < n) (hc : c i = some C) (hl : C'.laid = C.laid) (hs : C.laid ≠ 0 → C'.slot = C.slot) (hg : C'.Good h) : Inv A h own (upd c i (some C')) n := by
  have key : ∀ j D, upd c i (some C') j = some D → ∃ E, c j = some E ∧ D.laid = E.laid ∧ (D.laid ≠ 0 → sgN D.slot = sgN E.slot) := by
    intro j D hD
    by_cases e : j = i
    · subst e
      rw [upd_at] at hD
      cases hD
      exact ⟨C, hc, hl, fun h0 => by rw [hs (by rw [← hl]; exact h0)]⟩
    · rw [upd_ne _ _ e] at hD
      exact ⟨D, hD, rfl, fun _ => rfl⟩
  refine ⟨I.ok, I.clean, I.fix, I.seg, I.non, I.inj, ?_, ?_, ?_, ?_⟩
  · intro j D hj hD h0
    obtain ⟨E, hE, e1, e2⟩ := key j D hD
    rw [e2 h0, e1]
    exact I.prv j E hj hE (by rw [← e1]; exact h0)
  · intro j k D E hj hk hjk hD hE h0
    obtain ⟨D', hD', e1, e2⟩ := key j D hD
    obtain ⟨E', hE', e3, e4⟩ := key k E hE
    rw [e1, e3]
    exact I.apart j k D' E' hj hk hjk hD' hE' (by rw [← e1]; exact h0)
  · rw [I.use, sum_same (f := pvSize (upd c i (some C'))) (g := pvSize c) n (fun j hj => ?_)]
    unfold pvSize
    by_cases e : j = i
    · subst e
      rw [upd_at, hc]
      dsimp only
      rw [hl]
      by_cases h0 : C.laid = 0
      · rw [if_pos h0, if_pos h0]
      · rw [if_neg h0, if_neg h0, hs h0]
    · rw [upd_ne _ _ e]
  · intro j D hj hD
    by_cases e : j = i
    · subst e; rw [upd_at] at hD; cases hD; exact hg
    · rw [upd_ne _ _ e] at hD; exact I.good j D hj hD
theorem Cl.Good.turn {C : Cl} (hC : C.Good h) (h0 : C.laid = 0) (ho : C.own = false) {s : Nat} (hs : s = C.slot + 1) (h5 : C.seg = h (sgN C.slot) ∧ C.seg ≠ 0) : (C.turn s).Good h := by
  unfold Cl.turn
  by_cases h1 : 255 ≤ s
  · rw [if_pos h1]
    exact ⟨hC.tok, hC.tok64, hC.slot, by simp, by simp [h0], hC.laid64, hC.seg64, fun e => e.elim (fun e => by cases e) (fun e => by rw [ho] at e; cases e), fun e => rfl⟩
  · rw [if_neg h1]
    refine ⟨hC.tok, hC.tok64, by simpa using h1, ?_, ?_, hC.laid64, hC.seg64, ?_, ?_⟩
    · dsimp only; split <;> omega
    · dsimp only; rw [h0]; split <;> simp
    · dsimp only
      by_cases h2 : ofN s = 0
      · rw [if_pos h2]; simp [ho]
      · intro _
        rw [hs] at h2
        rw [hs, sg_next (by omega) h2]
        exact h5
    · dsimp only; intro e; rw [ho] at e; cases e
theorem fresh_not (ok : A.Ok) {k : Nat} {x : Int} (hx : hasH A.L x = true) : x ≠ ((A.births : Int) + 1) * 65536 + ((lead 0 A.L : Int) + 1) ∨ 65535 ≤ lead 0 A.L := by
  obtain ⟨y, hy, rfl⟩ := hasH_iff.1 hx
  have := (ok.hnd y hy).2.2
  by_cases h : 65535 ≤ lead 0 A.L
  · exact .inr h
  · left; omega
theorem lead_small (ok : A.Ok) : lead 0 A.L ≤ 60000 := by
  have h1 := lead_le A.L 0
  have h2 : A.L.length ≤ used A.L := length_le_used (fun x hx => (ok.len x hx).1)
  have := ok.top; have := ok.peak; have := ok.cap
  omega
theorem fresh_gone (ok : A.Ok) : hasH A.L (((A.births : Int) + 1) * 65536 + ((lead 0 A.L : Int) + 1)) = false := by
  rw [hasH_false]
  intro x hx e
  have := (ok.hnd x hx).2.2
  have := lead_small ok
  omega
theorem look_has {x : Int} {ws : List Int} {l : List Blk} (hl : Arn.look l x = some ws) : hasH l x = true := by
  cases hh : hasH l x with
  | true => rfl
  | false => rw [look_none.2 hh] at hl; cases hl
theorem Inv.room (I : Inv A h own c n) (R : Room A n) {i : Nat} {C : Cl} (hi : i < n) (hc : c i = some C) (h0 : C.laid = 0) : Arn.used A.L + 7 * 2 ^ sgN C.slot ≤ A.cap := by
  have h1 := segs_le h
  have hC := I.good i C hi hc
  have q := (sg_facts hC.slot).2.2.2.2
  have h3 := pvs_le I.good
  have h4 := sum_le (f := pvSize (upd c i (some { C with laid := 1 }))) (k := 896) n (fun j hj => by
    by_cases e : j = i
    · subst e; unfold pvSize; rw [upd_at]; dsimp only; rw [if_neg (by decide)]; omega
    · have := h3 j hj
      unfold pvSize at this ⊢
      rw [upd_ne _ _ e]; exact this)
  have h5 := sum_upd (f := pvSize c) (g := pvSize (upd c i (some { C with laid := 1 }))) n i hi (fun j hj => by unfold pvSize; rw [upd_ne _ _ hj])
  have h6 : pvSize c i = 0 := by unfold pvSize; rw [hc]; dsimp only; rw [if_pos h0]
  have h7 : pvSize (upd c i (some { C with laid := 1 })) i = 7 * 2 ^ sgN C.slot := by unfold pvSize; rw [upd_at]; dsimp only; rw [if_neg (by decide)]
  have := I.use
  unfold Room at R
  omega
/-- A lay. -/
theorem Inv.lay (I : Inv A h own c n) (R : Room A n) (hb : A.births < 268435455) {i : Nat} {C : Cl} (hi : i < n) (hc : c i = some C) (h2 : C.st = 2) :
    ∃ f, f ≠ 0 ∧ W64 f ∧ (A.lay (List.replicate (7 * 2 ^ sgN C.slot) 0)).2 = (f, 0) ∧ Inv (A.lay (List.replicate (7 * 2 ^ sgN C.slot) 0)).1 h own (upd c i (some { C with laid := f, st := 3 })) n := by
  have hC := I.good i C hi hc
  obtain ⟨q1, q2, q3, q4, q5⟩ := sg_facts hC.slot
  have h0 : C.laid = 0 := by
    have := hC.laid
    rw [h2] at this
    simpa using this
  have hr := I.room R hi hc h0
  have hls := lead_small I.ok
  have hfr := fresh_gone I.ok
  have e : A.lay (List.replicate (7 * 2 ^ sgN C.slot) 0) = ({ A with births := A.births + 1, L := A.L.take (lead 0 A.L) ++ ⟨((A.births : Int) + 1) * 65536 + ((lead 0 A.L : Int) + 1), List.replicate (7 * 2 ^ sgN C.slot) 0⟩ :: A.L.drop (lead 0 A.L), peak := max A.peak (Arn.used A.L + (List.replicate (7 * 2 ^ sgN C.slot) (0 : Int)).length), t := { A.t with lays := A.t.lays + 1 } },
      ((A.births : Int) + 1) * 65536 + ((lead 0 A.L : Int) + 1), 0) := by
    unfold Ar.lay
    rw [if_neg (by simp; omega), if_neg (by simp; omega)]
  have hok := lay_ok I.ok (ws := List.replicate (7 * 2 ^ sgN C.slot) 0) (by simp; omega) (by simp; omega) (by simp; omega) hb (fun v hv => by
    rw [(List.mem_replicate.1 hv).2]; unfold W64; omega)
  rw [e] at hok ⊢
  generalize hf : ((A.births : Int) + 1) * 65536 + ((lead 0 A.L : Int) + 1) = f at hfr hok ⊢
  have hf0 : f ≠ 0 := by omega
  have hne : ∀ x ws, Arn.look A.L x = some ws → x ≠ f := fun x ws hl e1 => by
    subst e1
    rw [look_has hl] at hfr; cases hfr
  have hlk : ∀ x ws, Arn.look A.L x = some ws → Arn.look (A.L.take (lead 0 A.L) ++ ⟨f, List.replicate (7 * 2 ^ sgN C.slot) 0⟩ :: A.L.drop (lead 0 A.L)) x = some ws := fun x ws hl => by
    rw [look_mid _ _ _ _ _ hfr, if_neg (hne x ws hl)]; exact hl
  have hb2 := I.ok.births
  refine ⟨f, hf0, by unfold W64; omega, rfl, hok, I.clean, I.fix, ?_, I.non, I.inj, ?_, ?_, ?_, ?_⟩
  · intro g hg hh
    obtain ⟨ws, w1, w2, w3⟩ := I.seg g hg hh
    exact ⟨ws, hlk _ _ w1, w2, w3⟩
  · intro j D hj hD hd0
    by_cases ej : j = i
    · subst ej
      rw [upd_at] at hD
      cases hD
      dsimp only
      refine ⟨by rw [look_mid _ _ _ _ _ hfr, if_pos rfl], fun g hg hh => ?_⟩
      have : h g ≠ 0 := by rw [hh]; exact hf0
      obtain ⟨ws, w1, _⟩ := I.seg g hg this
      exact hne _ _ w1 hh
    · rw [upd_ne _ _ ej] at hD
      obtain ⟨w1, w2⟩ := I.prv j D hj hD hd0
      exact ⟨hlk _ _ w1, w2⟩
  · intro j k D E hj hk hjk hD hE hd0 e1
    by_cases ej : j = i
    · subst ej
      rw [upd_at] at hD
      cases hD
      rw [upd_ne _ _ (fun e2 => hjk e2.symm)] at hE
      dsimp only at e1 hd0
      exact hne _ _ (I.prv k E hk hE (by rw [← e1]; exact hd0)).1 e1.symm
    · rw [upd_ne _ _ ej] at hD
      by_cases ek : k = i
      · subst ek
        rw [upd_at] at hE
        cases hE
        dsimp only at e1
        exact hne _ _ (I.prv j D hj hD hd0).1 e1
      · rw [upd_ne _ _ ek] at hE
        exact I.apart j k D E hj hk hjk hD hE hd0 e1
  · show Arn.used (_ ++ _ :: _) = _
    rw [used_mid, List.length_replicate, I.use]
    have h5 := sum_upd (f := pvSize c) (g := pvSize (upd c i (some { C with laid := f, st := 3 }))) n i hi (fun j hj => by unfold pvSize; rw [upd_ne _ _ hj])
    have h6 : pvSize c i = 0 := by unfold pvSize; rw [hc]; dsimp only; rw [if_pos h0]
    have h7 : pvSize (upd c i (some { C with laid := f, st := 3 })) i = 7 * 2 ^ sgN C.slot := by unfold pvSize; rw [upd_at]; dsimp only; rw [if_neg hf0]
    omega
  · intro j D hj hD
    by_cases ej : j = i
    · subst ej
      rw [upd_at] at hD
      cases hD
      refine ⟨hC.tok, hC.tok64, hC.slot, by simp, by simp [hf0], by unfold W64; dsimp only; omega, hC.seg64, ?_, ?_⟩
      · dsimp only
        rintro (e2 | e2)
        · cases e2
        · have := hC.own e2; omega
      · dsimp only
        intro e2
        have := hC.own e2; omega
    · rw [upd_ne _ _ ej] at hD; exact I.good j D hj hD
/-- The private block is freed. -/
theorem Inv.free (I : Inv A h own c n) {i : Nat} {C : Cl} (hi : i < n) (hc : c i = some C) (h4 : C.st = 4) :
    Inv (A.free C.laid).1 h own (upd c i (some { C with laid := 0, st := 1 })) n := by
  have hC := I.good i C hi hc
  have h0 : C.laid ≠ 0 := hC.laid.1 (.inr h4)
  obtain ⟨p1, p2⟩ := I.prv i C hi hc h0
  have hok := free_ok I.ok C.laid
  have e : A.free C.laid = ({ A with L := drop A.L C.laid, t := { A.t with frees := A.t.frees + 1 } }, 0) := by
    unfold Ar.free
    rw [if_pos (look_has p1)]
  rw [e] at hok ⊢
  have hlk : ∀ x, x ≠ C.laid → Arn.look (drop A.L C.laid) x = Arn.look A.L x := fun x hx => by rw [look_drop, if_neg hx]
  refine ⟨hok, I.clean, I.fix, ?_, I.non, I.inj, ?_, ?_, ?_, ?_⟩
  · intro g hg hh
    obtain ⟨ws, w1, w2, w3⟩ := I.seg g hg hh
    exact ⟨ws, by show Arn.look (drop A.L C.laid) _ = _; rw [hlk _ (p2 g hg)]; exact w1, w2, w3⟩
  · intro j D hj hD hd0
    by_cases ej : j = i
    · subst ej; rw [upd_at] at hD; cases hD; exact absurd rfl hd0
    · rw [upd_ne _ _ ej] at hD
      obtain ⟨w1, w2⟩ := I.prv j D hj hD hd0
      exact ⟨by show Arn.look (drop A.L C.laid) _ = _; rw [hlk _ (I.apart j i D C hj hi ej hD hc hd0)]; exact w1, w2⟩
  · intro j k D E hj hk hjk hD hE hd0
    by_cases ej : j = i
    · subst ej; rw [upd_at] at hD; cases hD; exact absurd rfl hd0
    · rw [upd_ne _ _ ej] at hD
      by_cases ek : k = i
      · subst ek; rw [upd_at] at hE; cases hE; exact hd0
      · rw [upd_ne _ _ ek] at hE
        exact I.apart j k D E hj hk hjk hD hE hd0
  · show Arn.used (drop A.L C.laid) = _
    have h1 := used_drop I.ok p1
    rw [List.length_replicate, I.use] at h1
    have h5 := sum_upd (f := pvSize c) (g := pvSize (upd c i (some { C with laid := 0, st := 1 }))) n i hi (fun j hj => by unfold pvSize; rw [upd_ne _ _ hj])
    have h6 : pvSize c i = 7 * 2 ^ sgN C.slot := by unfold pvSize; rw [hc]; dsimp only; rw [if_neg h0]
    have h7 : pvSize (upd c i (some { C with laid := 0, st := 1 })) i = 0 := by unfold pvSize; rw [upd_at]; dsimp only; rw [if_pos rfl]
    omega
  · intro j D hj hD
    by_cases ej : j = i
    · subst ej
      rw [upd_at] at hD
      cases hD
      refine ⟨hC.tok, hC.tok64, hC.slot, by simp, by simp, by unfold W64; dsimp only; omega, hC.seg64, ?_, ?_⟩
      · dsimp only
        rintro (e2 | e2)
        · cases e2
        · have := hC.own e2; omega
      · dsimp only
        intro e2
        have := hC.own e2; omega
    · rw [upd_ne _ _ ej] at hD; exact I.good j D hj hD
theorem Good.more {C : Cl} {h h' : Nat → Int} (hC : C.Good h) (hh : ∀ g, h g ≠ 0 → h' g = h g) : C.Good h' :=
  ⟨hC.tok, hC.tok64, hC.slot, hC.st, hC.laid, hC.laid64, hC.seg64, fun e => by
    obtain ⟨e1, e2⟩ := hC.seg e
    exact ⟨by rw [hh _ (by rw [← e1]; exact e2)]; exact e1, e2⟩, hC.own⟩
/-- The private block becomes the segment. -/
theorem Inv.hang (I : Inv A h own c n) {i : Nat} {C : Cl} (t : Tal) (hi : i < n) (hc : c i = some C) (h3 : C.st = 3) (hz : h (sgN C.slot) = 0) :
    Inv { A.set 0 (1 + sgN C.slot) C.laid with t := t } (upd h (sgN C.slot) C.laid) own (upd c i (some { C with seg := C.laid, laid := 0, st := 5 })) n := by
  have hC := I.good i C hi hc
  obtain ⟨q1, q2, q3, q4, q5⟩ := sg_facts hC.slot
  have h0 : C.laid ≠ 0 := hC.laid.1 (.inl h3)
  obtain ⟨p1, p2⟩ := I.prv i C hi hc h0
  have h9 := I.ok.nine
  have ht : ((1 : Int) + (sgN C.slot : Int)).toNat = 1 + sgN C.slot := by omega
  have e : A.set 0 (1 + sgN C.slot) C.laid = { A with fixed := A.fixed.set (1 + sgN C.slot) C.laid } := by
    unfold Ar.set; rw [if_pos rfl, ht]
  have hok := (I.ok.set (blk := 0) (i := 1 + sgN C.slot) hC.laid64).tally A.faults t
  rw [e] at hok ⊢
  have hself : upd h (sgN C.slot) C.laid (sgN C.slot) = C.laid := upd_at _ _ _
  refine ⟨hok, I.clean, ?_, ?_, ?_, ?_, ?_, ?_, ?_, ?_⟩
  · intro g hg
    show (A.fixed.set (1 + sgN C.slot) C.laid).getD (1 + g) 0 = _
    by_cases eg : g = sgN C.slot
    · subst eg
      rw [hself]
      simp [List.getD_eq_getElem?_getD, h9, hg]
      have : 1 + sgN C.slot < A.fixed.length := by omega
      simp [List.getElem?_set, this]
    · rw [upd_ne _ _ eg, ← I.fix g hg]
      simp only [List.getD_eq_getElem?_getD]
      rw [List.getElem?_set_ne (by omega)]
  · intro g hg hh
    by_cases eg : g = sgN C.slot
    · subst eg
      rw [hself]
      refine ⟨_, p1, by simp, fun o ho => ?_⟩
      obtain ⟨s1, s2, s3⟩ := sg_of hg ho
      rw [I.non _ s3 (by rw [s1]; exact hz)]
      rw [List.getD_eq_getElem?_getD, List.getElem?_replicate]
      split <;> rfl
    · rw [upd_ne _ _ eg] at hh ⊢
      exact I.seg g hg hh
  · intro s hs hh
    by_cases eg : sgN s = sgN C.slot
    · rw [eg, hself] at hh; exact absurd hh h0
    · rw [upd_ne _ _ eg] at hh; exact I.non s hs hh
  · intro g g' hg hg' hh he
    by_cases eg : g = sgN C.slot
    · subst eg
      rw [hself] at he
      by_cases eg' : g' = sgN C.slot
      · exact eg'.symm
      · rw [upd_ne _ _ eg'] at he; exact absurd he.symm (p2 g' hg')
    · rw [upd_ne _ _ eg] at he hh
      by_cases eg' : g' = sgN C.slot
      · subst eg'; rw [hself] at he; exact absurd he (p2 g hg)
      · rw [upd_ne _ _ eg'] at he; exact I.inj g g' hg hg' hh he
  · intro j D hj hD hd0
    by_cases ej : j = i
    · subst ej; rw [upd_at] at hD; cases hD; exact absurd rfl hd0
    · rw [upd_ne _ _ ej] at hD
      obtain ⟨w1, w2⟩ := I.prv j D hj hD hd0
      refine ⟨w1, fun g hg => ?_⟩
      by_cases eg : g = sgN C.slot
      · subst eg; rw [hself]; exact fun e2 => I.apart j i D C hj hi ej hD hc hd0 e2.symm
      · rw [upd_ne _ _ eg]; exact w2 g hg
  · intro j k D E hj hk hjk hD hE hd0
    by_cases ej : j = i
    · subst ej; rw [upd_at] at hD; cases hD; exact absurd rfl hd0
    · rw [upd_ne _ _ ej] at hD
      by_cases ek : k = i
      · subst ek; rw [upd_at] at hE; cases hE; exact hd0
      · rw [upd_ne _ _ ek] at hE
        exact I.apart j k D E hj hk hjk hD hE hd0
  · show Arn.used A.L = _
    rw [I.use]
    have h5 := sum_upd (f := pvSize c) (g := pvSize (upd c i (some { C with seg := C.laid, laid := 0, st := 5 }))) n i hi (fun j hj => by unfold pvSize; rw [upd_ne _ _ hj])
    have h6 : pvSize c i = 7 * 2 ^ sgN C.slot := by unfold pvSize; rw [hc]; dsimp only; rw [if_neg h0]
    have h7 : pvSize (upd c i (some { C with seg := C.laid, laid := 0, st := 5 })) i = 0 := by unfold pvSize; rw [upd_at]; dsimp only; rw [if_pos rfl]
    have h8 := sum_upd (f := segSize h) (g := segSize (upd h (sgN C.slot) C.laid)) 8 (sgN C.slot) q1 (fun j hj => by unfold segSize; rw [upd_ne _ _ hj])
    have h9' : segSize h (sgN C.slot) = 0 := by unfold segSize; rw [if_pos hz]
    have h10 : segSize (upd h (sgN C.slot) C.laid) (sgN C.slot) = 7 * 2 ^ sgN C.slot := by unfold segSize; rw [hself, if_neg h0]
    omega
  · intro j D hj hD
    by_cases ej : j = i
    · subst ej
      rw [upd_at] at hD
      cases hD
      refine ⟨hC.tok, hC.tok64, hC.slot, by simp, by simp, by unfold W64; dsimp only; omega, hC.laid64, ?_, ?_⟩
      · dsimp only
        intro _
        exact ⟨hself.symm, h0⟩
      · dsimp only
        intro e2
        have := hC.own e2; omega
    · rw [upd_ne _ _ ej] at hD
      exact Good.more (I.good j D hj hD) (fun g hg => by
        by_cases eg : g = sgN C.slot
        · subst eg; exact absurd hz hg
        · rw [upd_ne _ _ eg])
/-- An owner's word turns. -/
theorem Inv.own_ (I : Inv A h own c n) (t : Tal) {s : Nat} (hs : s < 255) (hh : h (sgN s) ≠ 0) {v : Int} (hv : W64 v) :
    Inv { A.set (h (sgN s)) (5 * ofN s) v with t := t } h (upd own s v) c n := by
  obtain ⟨q1, q2, q3, q4, q5⟩ := sg_facts hs
  have ht : ((5 : Int) * (ofN s : Int)).toNat = 5 * ofN s := by omega
  have e : A.set (h (sgN s)) (5 * ofN s) v = { A with L := setW A.L (h (sgN s)) (5 * ofN s) v } := by
    unfold Ar.set; rw [if_neg hh, ht]
  have hok := (I.ok.set (blk := h (sgN s)) (i := 5 * ofN s) hv).tally A.faults t
  rw [e] at hok ⊢
  refine ⟨hok, I.clean, I.fix, ?_, ?_, I.inj, ?_, I.apart, ?_, I.good⟩
  · intro g hg hg0
    show ∃ ws, Arn.look (setW A.L _ _ _) _ = _ ∧ _
    obtain ⟨ws, w1, w2, w3⟩ := I.seg g hg hg0
    rw [look_setW]
    by_cases eg : g = sgN s
    · subst eg
      rw [if_pos rfl, w1]
      refine ⟨_, rfl, by simpa using w2, fun o ho => ?_⟩
      by_cases eo : o = ofN s
      · subst eo
        rw [q2, upd_at, List.getD_eq_getElem?_getD, List.getElem?_set]
        have : 5 * ofN s < ws.length := by omega
        simp [this]
      · have hne : 2 ^ sgN s - 1 + o ≠ s := by omega
        rw [upd_ne _ _ hne, ← w3 o ho, List.getD_eq_getElem?_getD, List.getD_eq_getElem?_getD, List.getElem?_set_ne (by omega)]
    · rw [if_neg (fun e2 => eg (I.inj g _ hg q1 hg0 e2))]
      refine ⟨ws, w1, w2, fun o ho => ?_⟩
      obtain ⟨s1, s2, s3⟩ := sg_of hg ho
      rw [upd_ne _ _ (fun e2 => eg (by rw [← e2, s1]))]
      exact w3 o ho
  · intro s' hs' h1
    rw [upd_ne _ _ (fun e2 => hh (by rw [← e2]; exact h1))]
    exact I.non s' hs' h1
  · intro j D hj hD hd0
    show Arn.look (setW A.L _ _ _) _ = _ ∧ _
    obtain ⟨w1, w2⟩ := I.prv j D hj hD hd0
    rw [look_setW, if_neg (fun e2 => w2 _ q1 e2.symm)]
    exact ⟨w1, w2⟩
  · show Arn.used (setW A.L _ _ _) = _
    rw [used_setW]; exact I.use
/-- A step of one that claims. -/
theorem Inv.step (I : Inv A h own c n) (R : Room A n) (hb : A.births < 268435455) {i : Nat} {C : Cl} (hi : i < n) (hc : c i = some C) :
    ∃ f, f ≠ 0 ∧ (C.step A).2 = (astep h own C f).2.2 ∧ Inv (C.step A).1 (astep h own C f).1 (astep h own C f).2.1 (upd c i (some (astep h own C f).2.2)) n ∧ (C.step A).1.t.swaps = A.t.swaps + (if C.st = 3 ∨ C.st = 5 then 1 else 0) ∧ (C.step A).1.cap = A.cap := by
  have hC := I.good i C hi hc
  obtain ⟨q1, q2, q3, q4, q5⟩ := sg_facts hC.slot
  obtain ⟨r1, r2, r3⟩ := I.h_row q1
  have h5 := hC.st
  have w1 : C.st = 3 ∨ C.st = 5 → (if C.st = 3 ∨ C.st = 5 then 1 else 0) = 1 := fun e => if_pos e
  have w0 : ¬ (C.st = 3 ∨ C.st = 5) → (if C.st = 3 ∨ C.st = 5 then 1 else 0) = 0 := fun e => if_neg e
  by_cases s1 : C.st = 1
  · refine ⟨1, by decide, ?_⟩
    have e : A.read 0 (1 + sgN C.slot) = ({ A with t := { A.t with reads := A.t.reads + 1 } }, h (sgN C.slot), 0) := by
      unfold Ar.read; rw [if_pos r2, r3]
    have h0 : C.laid = 0 := by
      have := hC.laid
      rw [s1] at this
      simpa using this
    have hno : C.own = false := by
      cases ho : C.own with
      | false => rfl
      | true => have := hC.own ho; omega
    unfold Cl.step astep
    rw [if_pos s1, if_pos s1, e, w0 (by omega)]
    refine ⟨rfl, (I.tally _).put hi hc ?_ ?_ ?_, rfl, rfl⟩
    · dsimp only; split <;> rfl
    · intro h1; exact absurd h0 h1
    · dsimp only
      split
      · refine ⟨hC.tok, hC.tok64, hC.slot, by simp, by simp [h0], hC.laid64, hC.seg64, by simp [hno], by simp [hno]⟩
      · rename_i hz
        have hw : W64 (h (sgN C.slot)) := by rw [← r3]; exact get_wrd I.ok _ _
        refine ⟨hC.tok, hC.tok64, hC.slot, by simp, by simp [h0], hC.laid64, hw, fun _ => ⟨rfl, hz⟩, by simp [hno]⟩
  by_cases s2 : C.st = 2
  · obtain ⟨f, f1, f2, f3, f4⟩ := I.lay R hb hi hc s2
    have hcp : (A.lay (List.replicate (7 * 2 ^ sgN C.slot) 0)).1.cap = A.cap ∧ (A.lay (List.replicate (7 * 2 ^ sgN C.slot) 0)).1.t.swaps = A.t.swaps := by
      unfold Ar.lay; split
      · exact ⟨rfl, rfl⟩
      · split <;> exact ⟨rfl, rfl⟩
    refine ⟨f, f1, ?_⟩
    unfold Cl.step astep
    rw [if_neg s1, if_pos s2, if_neg s1, if_pos s2, f3, if_pos rfl, w0 (by omega)]
    exact ⟨rfl, f4, hcp.2, hcp.1⟩
  by_cases s3 : C.st = 3
  · refine ⟨1, by decide, ?_⟩
    have h0 : C.laid ≠ 0 := hC.laid.1 (.inl s3)
    have hno : C.own = false := by
      cases ho : C.own with
      | false => rfl
      | true => have := hC.own ho; omega
    by_cases hz : h (sgN C.slot) = 0
    · have e : A.swap 0 (1 + sgN C.slot) 0 C.laid = ({ A.set 0 (1 + sgN C.slot) C.laid with t := { A.t with swaps := A.t.swaps + 1 } }, true, 0) := by
        unfold Ar.swap; rw [if_pos r2, if_pos (by rw [r3]; exact hz)]
      unfold Cl.step astep
      rw [if_neg s1, if_neg s2, if_pos s3, if_neg s1, if_neg s2, if_pos s3, e, if_pos rfl, if_pos hz, w1 (.inl s3)]
      exact ⟨rfl, I.hang _ hi hc s3 hz, rfl, by unfold Ar.set; split <;> rfl⟩
    · have e : A.swap 0 (1 + sgN C.slot) 0 C.laid = ({ A with t := { A.t with swaps := A.t.swaps + 1 } }, false, 0) := by
        unfold Ar.swap; rw [if_pos r2, if_neg (by rw [r3]; exact hz)]
      unfold Cl.step astep
      rw [if_neg s1, if_neg s2, if_pos s3, if_neg s1, if_neg s2, if_pos s3, e, if_neg (by simp), if_neg hz, w1 (.inl s3)]
      refine ⟨rfl, (I.tally _).put hi hc rfl (fun _ => rfl) ?_, rfl, rfl⟩
      exact ⟨hC.tok, hC.tok64, hC.slot, by simp, by simp [h0], hC.laid64, hC.seg64, by simp [hno], by simp [hno]⟩
  by_cases s4 : C.st = 4
  · refine ⟨1, by decide, ?_⟩
    have hcp : (A.free C.laid).1.cap = A.cap ∧ (A.free C.laid).1.t.swaps = A.t.swaps := by
      unfold Ar.free; split <;> exact ⟨rfl, rfl⟩
    unfold Cl.step astep
    rw [if_neg s1, if_neg s2, if_neg s3, if_pos s4, if_neg s1, if_neg s2, if_neg s3, if_pos s4, w0 (by omega)]
    exact ⟨rfl, I.free hi hc s4, hcp.2, hcp.1⟩
  by_cases s5 : C.st = 5
  · refine ⟨1, by decide, ?_⟩
    obtain ⟨g1, g2⟩ := hC.seg (.inl s5)
    have h0 : C.laid = 0 := by
      have := hC.laid
      rw [s5] at this
      simpa using this
    have hno : C.own = false := by
      cases ho : C.own with
      | false => rfl
      | true => have := hC.own ho; omega
    obtain ⟨v1, v2⟩ := I.w_row hC.slot (by rw [← g1]; exact g2)
    by_cases hz : own C.slot = 0
    · have e : A.swap C.seg (5 * ofN C.slot) 0 C.tok = ({ A.set C.seg (5 * ofN C.slot) C.tok with t := { A.t with swaps := A.t.swaps + 1 } }, true, 0) := by
        rw [g1]
        unfold Ar.swap; rw [if_pos v1, if_pos (by rw [v2]; exact hz)]
      unfold Cl.step astep
      rw [if_neg s1, if_neg s2, if_neg s3, if_neg s4, if_pos s5, if_neg s1, if_neg s2, if_neg s3, if_neg s4, if_pos s5, e, if_pos rfl, if_pos hz, w1 (.inr s5)]
      refine ⟨rfl, ?_, rfl, by unfold Ar.set; split <;> rfl⟩
      rw [g1]
      refine (I.own_ _ hC.slot (by rw [← g1]; exact g2) hC.tok64).put hi hc rfl (fun _ => rfl) ?_
      exact ⟨hC.tok, hC.tok64, hC.slot, by simp, by simp [h0], hC.laid64, by dsimp only; rw [← g1]; exact hC.seg64, fun _ => ⟨rfl, by dsimp only; rw [← g1]; exact g2⟩, fun _ => rfl⟩
    · have e : A.swap C.seg (5 * ofN C.slot) 0 C.tok = ({ A with t := { A.t with swaps := A.t.swaps + 1 } }, false, 0) := by
        rw [g1]
        unfold Ar.swap; rw [if_pos v1, if_neg (by rw [v2]; exact hz)]
      unfold Cl.step astep
      rw [if_neg s1, if_neg s2, if_neg s3, if_neg s4, if_pos s5, if_neg s1, if_neg s2, if_neg s3, if_neg s4, if_pos s5, e, if_neg (by simp), if_neg hz, w1 (.inr s5)]
      have hC2 : ({ C with own := false } : Cl).Good h := by
        refine ⟨hC.tok, hC.tok64, hC.slot, hC.st, hC.laid, hC.laid64, hC.seg64, fun _ => ⟨g1, g2⟩, by simp⟩
      have hT := hC2.turn h0 rfl rfl ⟨g1, g2⟩
      refine ⟨rfl, (I.tally _).put hi hc ?_ (fun h1 => absurd h0 h1) hT, rfl, rfl⟩
      unfold Cl.turn; split <;> rfl
  · refine ⟨1, by decide, ?_⟩
    have s0 : C.st = 0 := by omega
    unfold Cl.step astep
    rw [if_neg s1, if_neg s2, if_neg s3, if_neg s4, if_neg s5, if_neg s1, if_neg s2, if_neg s3, if_neg s4, if_neg s5, w0 (by omega)]
    exact ⟨rfl, I.put hi hc rfl (fun _ => rfl) hC, rfl, rfl⟩
end Clm
end Go.Proofs.YtpajafecodkndaaGreat
