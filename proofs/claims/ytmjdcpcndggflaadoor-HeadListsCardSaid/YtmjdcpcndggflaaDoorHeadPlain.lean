/- Entries of words, entries of an arena, rows of entries one by the Next of the other. No program is spoken of here. -/
import Derived.Test.YtmjdcpcndggflaaDoorArenaPlain
import Derived.Test.YtmjdcpcndggflaaDoorFieldsPlain
import Derived.Test.YtmjdcpcndggflaaDoorOpsPlain
set_option linter.unusedVariables false
set_option linter.unusedSimpArgs false
namespace Go.Proofs.YtmjdcpcndggflaaDoor
namespace Hed
open Arn

def linkB (h : Int) : Bool := h == 0 || Fld.rightB h
def noteB (n : Int) : Bool := Ops.respT.rightB (n % 4294967296 / 268435456) (n % 4294967296 % 268435456) 0 0
def entB (s n x : Int) : Bool := noteB n && decide (0 ≤ s) && decide (s < 255) && linkB x
theorem wrap_i64 {a : Int} (h0 : 0 ≤ a) (h1 : a ≤ 18446744073709551615) : IntKind.i64.wrap a = if a ≤ 9223372036854775807 then a else a - 18446744073709551616 := by
  simp [IntKind.wrap, IntKind.max, IntKind.min, IntKind.bits, IntKind.signed]
  split <;> omega
abbrev Ent := Int × Int × Int
/-- The entry whose words these are. -/
def readE : List Int → Option Ent
  | [a, b, c] => if entB (IntKind.i64.wrap a) b c then some (IntKind.i64.wrap a, b, c) else none
  | _ => none
theorem readE_three {a b c : Int} : readE [a, b, c] = if entB (IntKind.i64.wrap a) b c then some (IntKind.i64.wrap a, b, c) else none := rfl
theorem readE_len {l : List Int} (h : l.length ≠ 3) : readE l = none := by
  match l, h with
  | [], _ => rfl
  | [_], _ => rfl
  | [_, _], _ => rfl
  | _ :: _ :: _ :: _ :: _, _ => rfl
theorem entB_parts {s n x : Int} (h : entB s n x = true) : noteB n = true ∧ 0 ≤ s ∧ s < 255 ∧ linkB x = true := by
  simp only [entB, Bool.and_eq_true, decide_eq_true_eq] at h
  exact ⟨h.1.1.1, h.1.1.2, h.1.2, h.2⟩
theorem entB_mk {s n x : Int} (h : noteB n = true) (h0 : 0 ≤ s) (h1 : s < 255) (hx : linkB x = true) : entB s n x = true := by
  simp only [entB, Bool.and_eq_true, decide_eq_true_eq]
  exact ⟨⟨⟨h, h0⟩, h1⟩, hx⟩
/-- The entries among blocks, by their handles. -/
def updE (f : Int → Option Ent) (x : Blk) : Int → Option Ent := fun k => if x.h = k ∧ (readE x.ws).isSome then readE x.ws else f k
def entsOf (L : List Blk) : Int → Option Ent := L.foldl updE (fun _ => none)
theorem entsOf_snoc (L : List Blk) (x : Blk) : entsOf (L ++ [x]) = updE (entsOf L) x := by simp [entsOf]
theorem entsOf_out : ∀ (L : List Blk) (f : Int → Option Ent) (k : Int), (∀ y, y ∈ L → y.h ≠ k) → L.foldl updE f k = f k := by
  intro L
  induction L with
  | nil => intro f k _; rfl
  | cons x t ih =>
    intro f k h
    rw [List.foldl_cons, ih _ _ (fun y hy => h y (by simp [hy]))]
    unfold updE
    rw [if_neg (fun e => h x (by simp) e.1)]
theorem entsOf_none {L : List Blk} {k : Int} (h : ∀ y, y ∈ L → y.h ≠ k) : entsOf L k = none := entsOf_out L _ k h
theorem entsOf_at : ∀ (L : List Blk) (f : Int → Option Ent) (x : Blk), x ∈ L → (∀ y z, y ∈ L → z ∈ L → y.h = z.h → y = z) → f x.h = none → L.foldl updE f x.h = readE x.ws := by
  intro L
  induction L with
  | nil => intro f x hx; cases hx
  | cons y t ih =>
    intro f x hx hu hf
    rw [List.foldl_cons]
    by_cases e : y.h = x.h
    · have hyx : y = x := hu y x (by simp) hx e
      subst hyx
      by_cases hm : y ∈ t
      · by_cases hr : (readE y.ws).isSome
        · have : ∀ (t : List Blk) (f : Int → Option Ent), (∀ z, z ∈ t → z.h = y.h → z = y) → f y.h = readE y.ws → t.foldl updE f y.h = readE y.ws := by
            intro t
            induction t with
            | nil => intro f _ hf; exact hf
            | cons z r ih2 =>
              intro f hz hf
              rw [List.foldl_cons]
              refine ih2 _ (fun q hq => hz q (by simp [hq])) ?_
              unfold updE
              by_cases e2 : z.h = y.h
              · have := hz z (by simp) e2
                subst this
                rw [if_pos ⟨rfl, hr⟩]
              · rw [if_neg (fun q => e2 q.1), hf]
          exact this t _ (fun z hz e2 => hu z y (by simp [hz]) (by simp) e2) (by unfold updE; rw [if_pos ⟨rfl, hr⟩])
        · exact ih _ y hm (fun a b ha hb => hu a b (by simp [ha]) (by simp [hb])) (by unfold updE; rw [if_neg (fun q => hr q.2)]; exact hf)
      · rw [entsOf_out t _ _ (fun z hz e2 => hm (by rw [← hu z y (by simp [hz]) (by simp) e2]; exact hz))]
        unfold updE
        by_cases hr : (readE y.ws).isSome
        · rw [if_pos ⟨rfl, hr⟩]
        · rw [if_neg (fun q => hr q.2), hf]
          exact (Option.not_isSome_iff_eq_none.1 hr).symm
    · refine ih _ x (by rcases List.mem_cons.1 hx with h | h; exact absurd (congrArg Blk.h h).symm e; exact h) (fun a b ha hb => hu a b (by simp [ha]) (by simp [hb])) ?_
      unfold updE
      rw [if_neg (fun q => e q.1), hf]
theorem entsOf_mem {L : List Blk} {x : Blk} (hx : x ∈ L) (hu : ∀ y z, y ∈ L → z ∈ L → y.h = z.h → y = z) : entsOf L x.h = readE x.ws := entsOf_at L _ x hx hu rfl
theorem entsOf_some {L : List Blk} {k : Int} {e : Ent} : entsOf L k = some e → ∃ x, x ∈ L ∧ x.h = k ∧ readE x.ws = some e := by
  have h : ∀ (L : List Blk) (f : Int → Option Ent), L.foldl updE f k = some e → f k = some e ∨ ∃ x, x ∈ L ∧ x.h = k ∧ readE x.ws = some e := by
    intro L
    induction L with
    | nil => intro f h; exact .inl h
    | cons x t ih =>
      intro f h
      rcases ih _ h with h1 | ⟨y, hy, h1⟩
      · unfold updE at h1
        split at h1
        · rename_i hc
          exact .inr ⟨x, by simp, hc.1, h1⟩
        · exact .inl h1
      · exact .inr ⟨y, by simp [hy], h1⟩
  intro hh
  rcases h L _ hh with h1 | h1
  · cases h1
  · exact h1
/-- Entries from a handle on, n at most. -/
def chainF (f : Int → Option Ent) : Nat → Int → Option (List (Int × Ent))
  | 0, h => if h = 0 then some [] else none
  | n + 1, h => if h = 0 then some [] else (f h).bind fun e => (chainF f n e.2.2).map ((h, e) :: ·)
theorem chain_nought (f : Int → Option Ent) (n : Nat) : chainF f n 0 = some [] := by cases n <;> rfl
theorem chain_none {f : Int → Option Ent} {n : Nat} {h : Int} (h0 : h ≠ 0) (hf : f h = none) : chainF f n h = none := by
  cases n with
  | zero => unfold chainF; rw [if_neg h0]
  | succ n => unfold chainF; rw [if_neg h0, hf]; rfl
theorem chain_full {f : Int → Option Ent} {h : Int} (h0 : h ≠ 0) : chainF f 0 h = none := by unfold chainF; rw [if_neg h0]
theorem chain_step {f : Int → Option Ent} {n : Nat} {h : Int} {e : Ent} (h0 : h ≠ 0) (hf : f h = some e) : chainF f (n + 1) h = (chainF f n e.2.2).map ((h, e) :: ·) := by
  rw [chainF, if_neg h0, hf]; rfl
theorem chain_len {f : Int → Option Ent} : ∀ {n : Nat} {h : Int} {l : List (Int × Ent)}, chainF f n h = some l → l.length ≤ n := by
  intro n
  induction n with
  | zero =>
    intro h l hl
    unfold chainF at hl
    split at hl
    · cases hl; simp
    · cases hl
  | succ n ih =>
    intro h l hl
    unfold chainF at hl
    split at hl
    · cases hl; simp
    · cases hf : f h with
      | none => rw [hf] at hl; cases hl
      | some e =>
        rw [hf] at hl
        obtain ⟨m, hm, rfl⟩ := Option.map_eq_some_iff.1 hl
        have := ih hm
        simp; omega
/-- What was followed so far, and what is to come. -/
def Mid (f : Int → Option Ent) (c : Int) (pre : List (Int × Ent)) (h : Int) : Prop := chainF f 1000 c = (chainF f (1000 - pre.length) h).map (pre ++ ·)
theorem mid_start (f : Int → Option Ent) (c : Int) : Mid f c [] c := by unfold Mid; simp
theorem mid_end {f : Int → Option Ent} {c : Int} {pre : List (Int × Ent)} (h : Mid f c pre 0) : chainF f 1000 c = some pre := by
  unfold Mid at h; rw [h, chain_nought]; simp
theorem mid_none {f : Int → Option Ent} {c : Int} {pre : List (Int × Ent)} {h : Int} (hm : Mid f c pre h) (h0 : h ≠ 0) (hf : f h = none) : chainF f 1000 c = none := by
  unfold Mid at hm; rw [hm, chain_none h0 hf]; rfl
theorem mid_full {f : Int → Option Ent} {c : Int} {pre : List (Int × Ent)} {h : Int} (hm : Mid f c pre h) (h0 : h ≠ 0) (hp : pre.length = 1000) : chainF f 1000 c = none := by
  unfold Mid at hm; rw [hm, hp, chain_full h0]; rfl
theorem mid_step {f : Int → Option Ent} {c : Int} {pre : List (Int × Ent)} {h : Int} {e : Ent} (hm : Mid f c pre h) (h0 : h ≠ 0) (hp : pre.length < 1000) (hf : f h = some e) : Mid f c (pre ++ [(h, e)]) e.2.2 := by
  unfold Mid at hm ⊢
  rw [hm, show 1000 - pre.length = (1000 - (pre ++ [(h, e)]).length) + 1 from by simp; omega, chain_step h0 hf, Option.map_map]
  congr 1
  funext l
  simp
end Hed
end Go.Proofs.YtmjdcpcndggflaaDoor
