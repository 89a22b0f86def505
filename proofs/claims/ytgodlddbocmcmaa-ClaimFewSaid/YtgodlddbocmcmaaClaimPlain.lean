/- A claim, plainly; the segments, the slots' owners and the private blocks of those that claim. No program is spoken of here. -/
import Derived.Test.YtgodlddbocmcmaaArenaPlain
set_option linter.unusedVariables false
set_option linter.unusedSimpArgs false
namespace Go.Proofs.Ytgodlddbocmcmaa
namespace Clm
open Arn

/-- The segment of a slot, and its offset. -/
def sgN (s : Nat) : Nat := Nat.log2 (s + 1)
def ofN (s : Nat) : Nat := s + 1 - 2 ^ sgN s
theorem sg_fin : ∀ s : Fin 255, sgN s.val < 8 ∧ 2 ^ sgN s.val ≤ s.val + 1 ∧ s.val + 1 < 2 * 2 ^ sgN s.val := by decide +kernel
theorem sg_facts {s : Nat} (h : s < 255) : sgN s < 8 ∧ 2 ^ sgN s - 1 + ofN s = s ∧ ofN s < 2 ^ sgN s ∧ 1 ≤ 2 ^ sgN s ∧ 2 ^ sgN s ≤ 128 := by
  obtain ⟨h1, h2, h3⟩ := sg_fin ⟨s, h⟩
  dsimp only at h1 h2 h3
  have h4 : 1 ≤ 2 ^ sgN s := Nat.one_le_two_pow
  unfold ofN
  have h5 : 2 ^ sgN s ≤ 2 ^ 7 := Nat.pow_le_pow_right (by omega) (by omega)
  refine ⟨h1, by omega, by omega, h4, by omega⟩
theorem sg_of_fin : ∀ g : Fin 8, ∀ o : Fin 128, o.val < 2 ^ g.val → sgN (2 ^ g.val - 1 + o.val) = g.val := by decide +kernel
theorem sg_of {g o : Nat} (hg : g < 8) (ho : o < 2 ^ g) : sgN (2 ^ g - 1 + o) = g ∧ ofN (2 ^ g - 1 + o) = o ∧ 2 ^ g - 1 + o < 255 := by
  have h5 : 2 ^ g ≤ 2 ^ 7 := Nat.pow_le_pow_right (by omega) (by omega)
  have h6 : 1 ≤ 2 ^ g := Nat.one_le_two_pow
  have h := sg_of_fin ⟨g, hg⟩ ⟨o, by omega⟩ ho
  dsimp only at h
  refine ⟨h, ?_, by omega⟩
  unfold ofN
  rw [h]; omega
/-- Where no segment begins, the slot lies in the one of the slot ahead. -/
theorem sg_next_fin : ∀ s : Fin 254, ofN (s.val + 1) ≠ 0 → sgN (s.val + 1) = sgN s.val := by decide +kernel
theorem sg_next {s : Nat} (h : s < 254) (h1 : ofN (s + 1) ≠ 0) : sgN (s + 1) = sgN s := sg_next_fin ⟨s, h⟩ h1

end Clm
namespace Arn
/-! ### what stands in an arena behind a call -/
theorem look_setW (l : List Blk) (h : Int) (i : Nat) (v k : Int) : look (setW l h i v) k = if k = h then (look l h).map (fun ws => ws.set i v) else look l k := by
  induction l with
  | nil => simp [look, setW]
  | cons x t ih =>
    unfold look setW at ih ⊢
    simp only [List.map_cons, List.find?_cons]
    by_cases hx : x.h = h
    · subst hx
      by_cases hk : k = x.h
      · subst hk; simp
      · have : (x.h == k) = false := by simp; exact fun e => hk e.symm
        simp only [if_pos, this, if_neg hk]
        rw [if_neg hk] at ih
        exact ih
    · simp only [if_neg hx]
      by_cases hk : x.h = k
      · subst hk
        simp [hx]
      · have h1 : (x.h == k) = false := by simp [hk]
        have h2 : (x.h == h) = false := by simp [hx]
        simp only [h1, h2]
        exact ih
theorem look_drop (l : List Blk) (h k : Int) : look (drop l h) k = if k = h then none else look l k := by
  induction l with
  | nil => simp [look, drop]
  | cons x t ih =>
    unfold look drop at ih ⊢
    simp only [List.filter_cons]
    by_cases hx : x.h = h
    · subst hx
      by_cases hk : k = x.h
      · subst hk; simp at ih ⊢; first | done | exact ih
      · have : (x.h == k) = false := by simp; exact fun e => hk e.symm
        rw [if_neg hk] at ih ⊢
        simp only [beq_self_eq_true, Bool.not_true, Bool.false_eq_true, if_false, List.find?_cons, this]
        exact ih
    · have h2 : (x.h == h) = false := by simp [hx]
      simp only [h2, Bool.not_false, if_true, List.find?_cons]
      by_cases hk : x.h = k
      · subst hk
        simp [hx]
      · have h1 : (x.h == k) = false := by simp [hk]
        simp only [h1]
        exact ih
theorem look_mid (l : List Blk) (n : Nat) (H : Int) (ws : List Int) (k : Int) (hn : hasH l H = false) : look (l.take n ++ ⟨H, ws⟩ :: l.drop n) k = if k = H then some ws else look l k := by
  have key : ∀ (a b : List Blk), hasH (a ++ b) H = false → look (a ++ ⟨H, ws⟩ :: b) k = if k = H then some ws else look (a ++ b) k := by
    intro a
    induction a with
    | nil =>
      intro b hb
      unfold look
      simp only [List.nil_append, List.find?_cons]
      by_cases hk : k = H
      · subst hk; simp
      · have : (H == k) = false := by simp; exact fun e => hk e.symm
        simp [this, hk]
    | cons x t ih =>
      intro b hb
      have hb' : x.h ≠ H ∧ hasH (t ++ b) H = false := by
        rw [hasH_false] at hb
        refine ⟨hb x (by simp), hasH_false.2 fun y hy => hb y (by simp at hy ⊢; exact .inr hy)⟩
      have ih' := ih b hb'.2
      unfold look at ih' ⊢
      simp only [List.cons_append, List.find?_cons]
      by_cases hk : x.h = k
      · subst hk
        simp [hb'.1]
      · have h1 : (x.h == k) = false := by simp [hk]
        simp only [h1]
        exact ih'
  have h2 := key (l.take n) (l.drop n) (by rw [List.take_append_drop]; exact hn)
  rw [List.take_append_drop] at h2
  exact h2
theorem used_drop {A : Ar} (ok : A.Ok) {h : Int} {ws : List Int} (hl : look A.L h = some ws) : used (drop A.L h) + ws.length = used A.L := by
  have key : ∀ l : List Blk, (l.Pairwise fun x y => x.h % 65536 < y.h % 65536) → look l h = some ws → used (drop l h) + ws.length = used l := by
    intro l
    induction l with
    | nil => intro _ h; simp [look] at h
    | cons x t ih =>
      intro hp hk
      obtain ⟨h1, h2⟩ := List.pairwise_cons.1 hp
      unfold look at hk
      unfold drop
      simp only [List.find?_cons] at hk
      simp only [List.filter_cons]
      by_cases hx : x.h = h
      · subst hx
        simp at hk
        subst hk
        have : t.filter (fun y => !(y.h == x.h)) = t := by
          rw [List.filter_eq_self]
          intro y hy
          have := h1 y hy
          simp
          intro e
          rw [e] at this
          omega
        simp only [beq_self_eq_true, Bool.not_true, Bool.false_eq_true, if_false, this, used]
        omega
      · have h3 : (x.h == h) = false := by simp [hx]
        rw [h3] at hk
        have := ih h2 hk
        unfold drop at this
        simp only [h3, Bool.not_false, if_true, used]
        omega
  exact key _ ok.rise hl

end Arn
namespace Clm
open Arn
/-! ### a claim -/
structure Cl where
  st : Nat
  tok : Int
  seg : Int
  slot : Nat
  own : Bool
  laid : Int
  err : Int
def Cl.new (tok : Int) : Cl := if tok = 0 then ⟨0, 0, 0, 0, false, 0, 2⟩ else ⟨1, tok, 0, 0, false, 0, 0⟩
def Cl.turn (C : Cl) (s : Nat) : Cl := if 255 ≤ s then { C with st := 0, err := 12 } else { C with slot := s, st := if ofN s = 0 then 1 else 5 }
def Cl.step (C : Cl) (A : Ar) : Ar × Cl :=
  if C.st = 1 then ((A.read 0 (1 + sgN C.slot)).1, if (A.read 0 (1 + sgN C.slot)).2.1 = 0 then { C with st := 2 } else { C with seg := (A.read 0 (1 + sgN C.slot)).2.1, st := 5 })
  else if C.st = 2 then ((A.lay (List.replicate (7 * 2 ^ sgN C.slot) 0)).1, if (A.lay (List.replicate (7 * 2 ^ sgN C.slot) 0)).2.2 = 0 then { C with laid := (A.lay (List.replicate (7 * 2 ^ sgN C.slot) 0)).2.1, st := 3 } else { C with err := (A.lay (List.replicate (7 * 2 ^ sgN C.slot) 0)).2.2, st := 0 })
  else if C.st = 3 then ((A.swap 0 (1 + sgN C.slot) 0 C.laid).1, if (A.swap 0 (1 + sgN C.slot) 0 C.laid).2.1 = true then { C with seg := C.laid, laid := 0, st := 5 } else { C with st := 4 })
  else if C.st = 4 then ((A.free C.laid).1, { C with laid := 0, st := 1 })
  else if C.st = 5 then ((A.swap C.seg (5 * ofN C.slot) 0 C.tok).1, if (A.swap C.seg (5 * ofN C.slot) 0 C.tok).2.1 = true then { C with own := true, st := 0 } else ({ C with own := false } : Cl).turn (C.slot + 1))
  else (A, C)
/-- What the segments' handles, the slots' owners and a claim become; f: a fresh handle. -/
def upd {α : Type} (f : Nat → α) (i : Nat) (v : α) : Nat → α := fun j => if j = i then v else f j
theorem upd_at {α : Type} (f : Nat → α) (i : Nat) (v : α) : upd f i v i = v := by simp [upd]
theorem upd_ne {α : Type} (f : Nat → α) {i j : Nat} (v : α) (h : j ≠ i) : upd f i v j = f j := by simp [upd, h]
def astep (h own : Nat → Int) (C : Cl) (f : Int) : (Nat → Int) × (Nat → Int) × Cl :=
  if C.st = 1 then (h, own, if h (sgN C.slot) = 0 then { C with st := 2 } else { C with seg := h (sgN C.slot), st := 5 })
  else if C.st = 2 then (h, own, { C with laid := f, st := 3 })
  else if C.st = 3 then (if h (sgN C.slot) = 0 then (upd h (sgN C.slot) C.laid, own, { C with seg := C.laid, laid := 0, st := 5 }) else (h, own, { C with st := 4 }))
  else if C.st = 4 then (h, own, { C with laid := 0, st := 1 })
  else if C.st = 5 then (if own C.slot = 0 then (h, upd own C.slot C.tok, { C with own := true, st := 0 }) else (h, own, ({ C with own := false } : Cl).turn (C.slot + 1)))
  else (h, own, C)
def sumTo (f : Nat → Nat) : Nat → Nat
  | 0 => 0
  | n + 1 => sumTo f n + f n
theorem sum_same {f g : Nat → Nat} : ∀ n, (∀ i, i < n → f i = g i) → sumTo f n = sumTo g n := by
  intro n
  induction n with
  | zero => intro _; rfl
  | succ n ih => intro h; simp only [sumTo]; rw [ih (fun i hi => h i (by omega)), h n (by omega)]
theorem sum_upd {f g : Nat → Nat} : ∀ n i, i < n → (∀ j, j ≠ i → g j = f j) → sumTo g n + f i = sumTo f n + g i := by
  intro n
  induction n with
  | zero => intro i hi; omega
  | succ n ih =>
    intro i hi h
    simp only [sumTo]
    by_cases e : i = n
    · subst e
      rw [sum_same (f := g) (g := f) i (fun j hj => h j (by omega))]
      omega
    · have h1 := ih i (by omega) h
      have h2 := h n (by omega)
      omega
theorem sum_le {f : Nat → Nat} {k : Nat} : ∀ n, (∀ i, i < n → f i ≤ k) → sumTo f n ≤ n * k := by
  intro n
  induction n with
  | zero => intro _; simp [sumTo]
  | succ n ih =>
    intro h
    have h1 := ih (fun i hi => h i (by omega))
    have h2 := h n (by omega)
    simp only [sumTo]
    rw [Nat.succ_mul]; omega
def segSize (h : Nat → Int) (g : Nat) : Nat := if h g = 0 then 0 else 7 * 2 ^ g
def pvSize (c : Nat → Option Cl) (i : Nat) : Nat := match c i with
  | none => 0
  | some C => if C.laid = 0 then 0 else 7 * 2 ^ sgN C.slot
structure Cl.Good (C : Cl) (h : Nat → Int) : Prop where
  tok : C.tok ≠ 0
  tok64 : W64 C.tok
  slot : C.slot < 255
  st : C.st ≤ 5
  laid : (C.st = 3 ∨ C.st = 4) ↔ C.laid ≠ 0
  laid64 : W64 C.laid
  seg64 : W64 C.seg
  seg : C.st = 5 ∨ C.own = true → C.seg = h (sgN C.slot) ∧ C.seg ≠ 0
  own : C.own = true → C.st = 0
/-- An arena with segments h, owners own, and those that claim: c 0, .., c (n - 1). -/
structure Inv (A : Ar) (h own : Nat → Int) (c : Nat → Option Cl) (n : Nat) : Prop where
  ok : A.Ok
  clean : A.faults = 0
  fix : ∀ g, g < 8 → A.fixed.getD (1 + g) 0 = h g
  seg : ∀ g, g < 8 → h g ≠ 0 → ∃ ws, Arn.look A.L (h g) = some ws ∧ ws.length = 7 * 2 ^ g ∧ ∀ o, o < 2 ^ g → ws.getD (5 * o) 0 = own (2 ^ g - 1 + o)
  non : ∀ s, s < 255 → h (sgN s) = 0 → own s = 0
  inj : ∀ g g', g < 8 → g' < 8 → h g ≠ 0 → h g = h g' → g = g'
  prv : ∀ i C, i < n → c i = some C → C.laid ≠ 0 → Arn.look A.L C.laid = some (List.replicate (7 * 2 ^ sgN C.slot) 0) ∧ ∀ g, g < 8 → h g ≠ C.laid
  apart : ∀ i j C D, i < n → j < n → i ≠ j → c i = some C → c j = some D → C.laid ≠ 0 → C.laid ≠ D.laid
  use : Arn.used A.L = sumTo (segSize h) 8 + sumTo (pvSize c) n
  good : ∀ i C, i < n → c i = some C → C.Good h
/-- Room for all that may be asked for. -/
def Room (A : Ar) (n : Nat) : Prop := 1785 + n * 896 ≤ A.cap
theorem segs_le (h : Nat → Int) : sumTo (segSize h) 8 ≤ 1785 := by
  have e : ∀ g, segSize h g ≤ 7 * 2 ^ g := fun g => by unfold segSize; split <;> omega
  have := e 0; have := e 1; have := e 2; have := e 3; have := e 4; have := e 5; have := e 6; have := e 7
  simp only [sumTo]
  omega
theorem pvs_le {c : Nat → Option Cl} {h : Nat → Int} {n : Nat} (hg : ∀ i C, i < n → c i = some C → C.Good h) : ∀ i, i < n → pvSize c i ≤ 896 := by
  intro i hi
  unfold pvSize
  cases hc : c i with
  | none => simp
  | some C =>
    dsimp only
    have := (sg_facts (hg i C hi hc).slot).2.2.2.2
    split <;> omega
end Clm
end Go.Proofs.Ytgodlddbocmcmaa
