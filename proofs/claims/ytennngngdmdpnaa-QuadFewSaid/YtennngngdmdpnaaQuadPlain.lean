/- Trees of nodes of four words, as the program walks them: which nodes and pairs it tells, and that these are few and rise. -/
import Derived.Test.YtennngngdmdpnaaArenaPlain
set_option linter.unusedVariables false
set_option linter.unusedSimpArgs false
namespace Go.Proofs.Ytennngngdmdpnaa
namespace Qud
open Arn

def zero4 : List Int := [0, 0, 0, 0]
/-- The words of each block of four, by its handle; noughts of any other. -/
def upd (f : Int → List Int) (x : Blk) : Int → List Int := fun k => if x.h = k ∧ x.ws.length = 4 then x.ws else f k
def ndOf (L : List Blk) : Int → List Int := L.foldl upd (fun _ => zero4)
theorem ndOf_snoc (L : List Blk) (x : Blk) : ndOf (L ++ [x]) = upd (ndOf L) x := by simp [ndOf]
theorem ndOf_all (Q : List Int → Prop) (h0 : Q zero4) : ∀ (L : List Blk), (∀ x, x ∈ L → x.ws.length = 4 → Q x.ws) → ∀ k, Q (ndOf L k) := by
  suffices h : ∀ (L : List Blk) (f : Int → List Int), (∀ k, Q (f k)) → (∀ x, x ∈ L → x.ws.length = 4 → Q x.ws) → ∀ k, Q (L.foldl upd f k) from fun L hL => h L _ (fun _ => h0) hL
  intro L
  induction L with
  | nil => intro f hf _ k; exact hf k
  | cons x t ih =>
    intro f hf hL k
    refine ih (upd f x) (fun k => ?_) (fun y hy => hL y (by simp [hy])) k
    unfold upd
    split
    · rename_i hc; exact hL x (by simp) hc.2
    · exact hf k
theorem ndOf_len (L : List Blk) (k : Int) : (ndOf L k).length = 4 := ndOf_all (fun l => l.length = 4) rfl L (fun _ _ h => h) k
abbrev Tr := List Int × List (Int × Int)
def kidsTo (g : Int → Int → Option Tr) (base : Int) (l : List Int) : Nat → Option Tr
  | 0 => some ([], [])
  | i + 1 => (kidsTo g base l i).bind fun a => if l.getD i 0 = 0 then some a else (g (l.getD i 0) (base + i)).map fun b => (a.1 ++ b.1, a.2 ++ b.2)
def walkW (nd : Int → List Int) : Nat → Int → Int → Option Tr
  | 0, word, d => if 1024 < word then none else some ([], [(d, word - 1)])
  | f + 1, h, d => if nd h = zero4 then none else (kidsTo (walkW nd f) (4 * d) (nd h) 4).map fun a => (h :: a.1, a.2)

/-- Pairs whose keys rise, from lo up to below hi, with values from 0 to 1023. -/
def Rise (lo hi : Int) (ps : List (Int × Int)) : Prop := ps.Pairwise (fun x y => x.1 < y.1) ∧ ∀ x, x ∈ ps → lo ≤ x.1 ∧ x.1 < hi ∧ 0 ≤ x.2 ∧ x.2 ≤ 1023
theorem Rise.append {lo mid hi : Int} {a b : List (Int × Int)} (h : Rise lo mid a) (k : Rise mid hi b) (h1 : lo ≤ mid) (h2 : mid ≤ hi) : Rise lo hi (a ++ b) := by
  refine ⟨List.pairwise_append.2 ⟨h.1, k.1, fun x hx y hy => ?_⟩, fun x hx => ?_⟩
  · have := (h.2 x hx).2.1; have := (k.2 y hy).1; omega
  · rcases List.mem_append.1 hx with hx | hx
    · have := h.2 x hx; omega
    · have := k.2 x hx; omega
theorem Rise.mono {lo hi hi' : Int} {a : List (Int × Int)} (h : Rise lo hi a) (h1 : hi ≤ hi') : Rise lo hi' a := ⟨h.1, fun x hx => by have := h.2 x hx; omega⟩
def pow4 : Nat → Int
  | 0 => 1
  | f + 1 => 4 * pow4 f
theorem pow4_pos (f : Nat) : 1 ≤ pow4 f := by induction f with
  | zero => simp [pow4]
  | succ f ih => simp only [pow4]; omega
/-- What a tree below a level has: at least a pair, at most f nodes for each, its keys in its own part. -/
structure Good (f : Nat) (d : Int) (r : Tr) : Prop where
  some_ : r.2 ≠ []
  few : r.1.length ≤ f * r.2.length
  rise : Rise (d * pow4 f) ((d + 1) * pow4 f) r.2
theorem kids_good {g : Int → Int → Option Tr} {f : Nat} {base : Int} {l : List Int} (hg : ∀ x d r, x ≠ 0 → x ∈ l → g x d = some r → Good f d r) : ∀ (i : Nat), i ≤ l.length → ∀ r, kidsTo g base l i = some r →
    r.1.length ≤ f * r.2.length ∧ Rise (base * pow4 f) ((base + i) * pow4 f) r.2 ∧ ((∃ j, j < i ∧ l.getD j 0 ≠ 0) → r.2 ≠ []) := by
  intro i
  induction i with
  | zero =>
    intro _ r h
    simp only [kidsTo, Option.some.injEq] at h
    subst h
    exact ⟨by simp, ⟨by simp, by simp⟩, fun ⟨j, hj, _⟩ => by omega⟩
  | succ i ih =>
    intro hi r h
    simp only [kidsTo, Option.bind_eq_some_iff] at h
    obtain ⟨a, ha, h⟩ := h
    obtain ⟨h1, h2, h3⟩ := ih (by omega) a ha
    have hp := pow4_pos f
    have hs : (base + (i : Int)) * pow4 f ≤ (base + ((i + 1 : Nat) : Int)) * pow4 f := Int.mul_le_mul_of_nonneg_right (by omega) (by omega)
    have hb : base * pow4 f ≤ (base + (i : Int)) * pow4 f := Int.mul_le_mul_of_nonneg_right (by omega) (by omega)
    split at h
    · rename_i h0
      cases h
      refine ⟨h1, h2.mono hs, fun ⟨j, hj, hn⟩ => h3 ?_⟩
      rcases Nat.lt_or_ge j i with hlt | hge
      · exact ⟨j, hlt, hn⟩
      · obtain rfl : j = i := by omega
        exact absurd h0 hn
    · rename_i h0
      obtain ⟨b, hb', rfl⟩ := Option.map_eq_some_iff.1 h
      have hmem : l.getD i 0 ∈ l := by
        rw [List.getD_eq_getElem?_getD, List.getElem?_eq_getElem (by omega)]
        simp
      obtain ⟨k1, k2, k3⟩ := hg _ _ _ h0 hmem hb'
      have e : base + ((i + 1 : Nat) : Int) = base + (i : Int) + 1 := by omega
      rw [e]
      refine ⟨?_, h2.append k3 hb (by rw [← e]; exact hs), fun _ => by simp [k1]⟩
      simp only [List.length_append, Nat.mul_add]
      omega
theorem walk_good {nd : Int → List Int} (h4 : ∀ k, (nd k).length = 4) (h0 : ∀ k x, x ∈ nd k → 0 ≤ x) : ∀ (f : Nat) (h d : Int) (r : Tr), h ≠ 0 → 0 ≤ h → walkW nd f h d = some r → Good f d r := by
  intro f
  induction f with
  | zero =>
    intro h d r hn hp hw
    simp only [walkW] at hw
    split at hw
    · cases hw
    · cases hw
      refine ⟨by simp, by simp, ⟨by simp, fun x hx => ?_⟩⟩
      simp at hx
      subst hx
      simp only [pow4]
      omega
  | succ f ih =>
    intro h d r hn hp hw
    simp only [walkW] at hw
    split at hw
    · cases hw
    · rename_i hz
      obtain ⟨a, ha, rfl⟩ := Option.map_eq_some_iff.1 hw
      obtain ⟨h1, h2, h3⟩ := kids_good (f := f) (fun x d' r' hx hm hr => ih x d' r' hx (h0 h x hm) hr) 4 (by rw [h4 h]; exact Nat.le_refl _) a ha
      have hne : a.2 ≠ [] := h3 (by
        have hl := h4 h
        match hv : nd h, hl with
        | [x0, x1, x2, x3], _ =>
          rw [hv] at hz
          by_cases e0 : x0 = 0
          · by_cases e1 : x1 = 0
            · by_cases e2 : x2 = 0
              · by_cases e3 : x3 = 0
                · subst e0 e1 e2 e3
                  exact absurd rfl hz
                · exact ⟨3, by omega, by simpa using e3⟩
              · exact ⟨2, by omega, by simpa using e2⟩
            · exact ⟨1, by omega, by simpa using e1⟩
          · exact ⟨0, by omega, by simpa using e0⟩)
      refine ⟨hne, ?_, ?_⟩
      · have : 1 ≤ a.2.length := List.length_pos_iff.2 hne
        simp only [List.length_cons, Nat.add_mul]
        omega
      · have e1 : d * pow4 (f + 1) = 4 * d * pow4 f := by simp only [pow4]; rw [← Int.mul_assoc, Int.mul_comm d 4]
        have e2 : (d + 1) * pow4 (f + 1) = (4 * d + ((4 : Nat) : Int)) * pow4 f := by
          have : 4 * d + ((4 : Nat) : Int) = (d + 1) * 4 := by omega
          rw [this]; simp only [pow4]; rw [← Int.mul_assoc]
        rw [e1, e2]
        exact h2
end Qud
end Go.Proofs.Ytennngngdmdpnaa
