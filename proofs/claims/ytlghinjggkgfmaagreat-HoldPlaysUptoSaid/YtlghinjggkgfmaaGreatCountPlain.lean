/- Counts, plainly: segments' blocks as functions of their words, a count as a state. No program is spoken of here. -/
import Derived.Test.YtlghinjggkgfmaaGreatClaimStep
set_option linter.unusedVariables false
set_option linter.unusedSimpArgs false
namespace Go.Proofs.YtlghinjggkgfmaaGreat
namespace Cnt
open Arn Clm

/-- How long a slot's path is, and its k-th node. -/
def kN (s : Nat) : Nat := sgN s + 1
def ndN (s k : Nat) : Nat := (s + 1) / 2 ^ k
theorem nd_fin : ∀ s : Fin 255, ∀ k : Fin 8, k.val ≤ sgN s.val → 1 ≤ ndN s.val k.val ∧ ndN s.val k.val < 2 * 2 ^ sgN s.val := by decide +kernel
theorem nd_facts {s k : Nat} (h : s < 255) (hk : k < kN s) : 1 ≤ ndN s k ∧ ndN s k < 2 * 2 ^ sgN s := by
  have := (sg_facts h).1
  unfold kN at hk
  exact nd_fin ⟨s, h⟩ ⟨k, by omega⟩ (by show k ≤ sgN s; omega)
theorem nd_down (s : Nat) {k l : Nat} (h : k < l) (h1 : 1 ≤ ndN s k) : ndN s l < ndN s k := by
  obtain ⟨d, rfl⟩ : ∃ d, l = k + (d + 1) := ⟨l - k - 1, by omega⟩
  have e : ndN s (k + (d + 1)) = ndN s k / 2 ^ (d + 1) := by
    unfold ndN
    rw [Nat.pow_add, Nat.div_div_eq_div_mul]
  rw [e]
  exact Nat.div_lt_self h1 (Nat.one_lt_two_pow (by omega))
theorem nd_inj {s k l : Nat} (h : s < 255) (hk : k < kN s) (hl : l < kN s) (e : ndN s k = ndN s l) : k = l := by
  have h1 := (nd_facts h hk).1
  have h2 := (nd_facts h hl).1
  rcases Nat.lt_trichotomy k l with h3 | h3 | h3
  · have := nd_down s h3 h1; omega
  · exact h3
  · have := nd_down s h3 h2; omega
theorem kN_le {s : Nat} (h : s < 255) : 1 ≤ kN s ∧ kN s ≤ 8 := by
  have := (sg_facts h).1
  unfold kN; omega
/-- Where the counter of the k-th node lies. -/
def adN (s k : Nat) : Nat := 5 * 2 ^ sgN s + ndN s k
theorem ad_lt {s k : Nat} (h : s < 255) (hk : k < kN s) : adN s k < 7 * 2 ^ sgN s := by
  have := nd_facts h hk
  unfold adN; omega
/-- Is the word j of the segment g one of the counters lo .. hi - 1 of the path? -/
def con (s lo hi g j : Nat) : Nat := if g = sgN s ∧ (List.range hi).any (fun k => decide (lo ≤ k ∧ j = adN s k)) = true then 1 else 0
theorem any_iff {s lo hi j : Nat} : (List.range hi).any (fun k => decide (lo ≤ k ∧ j = adN s k)) = true ↔ ∃ k, lo ≤ k ∧ k < hi ∧ j = adN s k := by
  rw [List.any_eq_true]
  constructor
  · rintro ⟨k, hk, h⟩
    have := of_decide_eq_true h
    exact ⟨k, this.1, List.mem_range.1 hk, this.2⟩
  · rintro ⟨k, h1, h2, h3⟩
    exact ⟨k, List.mem_range.2 h2, decide_eq_true ⟨h1, h3⟩⟩
theorem con_le (s lo hi g j : Nat) : con s lo hi g j ≤ 1 := by unfold con; split <;> omega
theorem con_yes {s lo hi g j k : Nat} (h : g = sgN s) (h1 : lo ≤ k) (h2 : k < hi) (h3 : j = adN s k) : con s lo hi g j = 1 := by
  unfold con
  rw [if_pos ⟨h, any_iff.2 ⟨k, h1, h2, h3⟩⟩]
theorem con_no {s lo hi g j : Nat} (h : g = sgN s → ∀ k, lo ≤ k → k < hi → j ≠ adN s k) : con s lo hi g j = 0 := by
  unfold con
  rw [if_neg]
  rintro ⟨h1, h2⟩
  obtain ⟨k, k1, k2, k3⟩ := any_iff.1 h2
  exact h h1 k k1 k2 k3
theorem con_none {s lo hi : Nat} (h : hi ≤ lo) (g j : Nat) : con s lo hi g j = 0 := con_no (fun _ k k1 k2 => by omega)
theorem con_up {s lo hi : Nat} (hs : s < 255) (h1 : lo ≤ hi) (h2 : hi < kN s) (g j : Nat) : con s lo (hi + 1) g j = con s lo hi g j + (if g = sgN s ∧ j = adN s hi then 1 else 0) := by
  by_cases hg : g = sgN s
  · by_cases hj : j = adN s hi
    · rw [if_pos ⟨hg, hj⟩, con_yes hg h1 (Nat.lt_succ_self _) hj, con_no]
      intro _ k k1 k2 k3
      have := nd_inj hs h2 (show k < kN s by omega) (by unfold adN at hj k3; omega)
      omega
    · rw [if_neg (fun h => hj h.2)]
      by_cases hk : ∃ k, lo ≤ k ∧ k < hi ∧ j = adN s k
      · obtain ⟨k, k1, k2, k3⟩ := hk
        rw [con_yes hg k1 (show k < hi + 1 by omega) k3, con_yes hg k1 k2 k3]
      · rw [con_no (fun _ k k1 k2 k3 => hk ⟨k, k1, k2, k3⟩), con_no]
        intro _ k k1 k2 k3
        by_cases e : k = hi
        · subst e; exact hj k3
        · exact hk ⟨k, k1, by omega, k3⟩
  · rw [if_neg (fun h => hg h.1), con_no (fun h => absurd h hg), con_no (fun h => absurd h hg)]
theorem con_down {s lo hi : Nat} (hs : s < 255) (h1 : lo < hi) (h2 : hi ≤ kN s) (g j : Nat) : con s lo hi g j = con s (lo + 1) hi g j + (if g = sgN s ∧ j = adN s lo then 1 else 0) := by
  by_cases hg : g = sgN s
  · by_cases hj : j = adN s lo
    · rw [if_pos ⟨hg, hj⟩, con_yes hg (Nat.le_refl _) h1 hj, con_no]
      intro _ k k1 k2 k3
      have := nd_inj hs (show lo < kN s by omega) (show k < kN s by omega) (by unfold adN at hj k3; omega)
      omega
    · rw [if_neg (fun h => hj h.2)]
      by_cases hk : ∃ k, lo + 1 ≤ k ∧ k < hi ∧ j = adN s k
      · obtain ⟨k, k1, k2, k3⟩ := hk
        rw [con_yes hg (show lo ≤ k by omega) k2 k3, con_yes hg k1 k2 k3]
      · rw [con_no (s := s) (lo := lo + 1) (fun _ k k1 k2 k3 => hk ⟨k, k1, k2, k3⟩), con_no]
        intro _ k k1 k2 k3
        by_cases e : k = lo
        · subst e; exact hj k3
        · exact hk ⟨k, by omega, k2, k3⟩
  · rw [if_neg (fun h => hg h.1), con_no (fun h => absurd h hg), con_no (fun h => absurd h hg)]

/-! ### segments -/
def hS (g : Nat) : Int := ((g : Int) + 1) * 65537
def rowF (n : Nat) (f : Nat → Int) : List Int := (List.range n).map f
def blksF (n : Nat) (f : Nat → Nat → Int) : List Blk := (List.range n).map fun g => ⟨hS g, rowF (7 * 2 ^ g) (f g)⟩
def upd2 {α : Type} (f : Nat → Nat → α) (g j : Nat) (v : α) : Nat → Nat → α := fun x y => if x = g ∧ y = j then v else f x y
theorem hS_inj {g k : Nat} (h : hS g = hS k) : g = k := by unfold hS at h; omega
theorem hS_64 {g : Nat} (h : g < 8) : W64 (hS g) := by unfold hS W64; omega
theorem hS_ne (g : Nat) : hS g ≠ 0 := by unfold hS; omega
theorem rowF_len (n : Nat) (f : Nat → Int) : (rowF n f).length = n := by simp [rowF]
theorem rowF_get {n j : Nat} (f : Nat → Int) (h : j < n) : (rowF n f).getD j 0 = f j := by simp [rowF, List.getD_eq_getElem?_getD, h]
theorem rowF_set (n j : Nat) (f : Nat → Int) (v : Int) : (rowF n f).set j v = rowF n (fun y => if y = j then v else f y) := by
  apply List.ext_getElem?
  intro i
  simp only [rowF, List.getElem?_set, List.getElem?_map, List.length_map, List.length_range]
  by_cases hi : i < n
  · by_cases e : j = i
    · subst e; simp [hi]
    · have e' : ¬ i = j := fun h => e h.symm
      simp [hi, e, e']
  · by_cases e : j = i
    · subst e; simp [hi]
    · simp [hi, e]
theorem look_blks : ∀ (n : Nat) (f : Nat → Nat → Int) {g : Nat}, g < n → Arn.look (blksF n f) (hS g) = some (rowF (7 * 2 ^ g) (f g)) := by
  intro n f g hg
  unfold Arn.look blksF
  have : (List.map (fun g => (⟨hS g, rowF (7 * 2 ^ g) (f g)⟩ : Blk)) (List.range n)).find? (fun x => x.h == hS g) = some ⟨hS g, rowF (7 * 2 ^ g) (f g)⟩ := by
    rw [List.find?_map]
    have h1 : (List.range n).find? ((fun x : Blk => x.h == hS g) ∘ fun g => (⟨hS g, rowF (7 * 2 ^ g) (f g)⟩ : Blk)) = some g := by
      rw [List.find?_eq_some_iff_append]
      refine ⟨by simp, List.range g, (List.range (n - g - 1)).map (fun i => g + 1 + i), ?_, ?_⟩
      · apply List.ext_getElem?
        intro i
        by_cases h1 : i < g
        · rw [List.getElem?_append_left (by simpa using h1)]
          simp [h1, Nat.lt_trans h1 hg]
        · rw [List.getElem?_append_right (by simpa using h1)]
          simp only [List.length_range]
          by_cases h2 : i = g
          · subst h2; simp [hg]
          · obtain ⟨d, hd⟩ : ∃ d, i - g = d + 1 := ⟨i - g - 1, by omega⟩
            rw [hd, List.getElem?_cons_succ]
            by_cases h3 : i < n
            · rw [List.getElem?_range h3, List.getElem?_map, List.getElem?_range (by omega)]
              simp; omega
            · rw [List.getElem?_eq_none (by simpa using h3), List.getElem?_eq_none (by simp; omega)]
      · intro a ha
        have := List.mem_range.1 ha
        simp only [Function.comp, Bool.not_eq_true', beq_eq_false_iff_ne]
        exact fun e => by have := hS_inj e; omega
    rw [h1]; rfl
  rw [this]; rfl
theorem setW_blks (n : Nat) (f : Nat → Nat → Int) (g j : Nat) (v : Int) : setW (blksF n f) (hS g) j v = blksF n (upd2 f g j v) := by
  unfold setW blksF
  rw [List.map_map]
  apply List.map_congr_left
  intro k hk
  simp only [Function.comp]
  by_cases e : k = g
  · subst e
    rw [if_pos rfl, rowF_set]
    congr 2
    funext y
    unfold upd2
    by_cases ey : y = j <;> simp [ey]
  · rw [if_neg (fun h => e (hS_inj h))]
    congr 2
    funext y
    unfold upd2
    rw [if_neg (fun h => e h.1)]
/-- An arena that has the segments 0 .. n - 1, the word j of the segment g is f g j. -/
structure SegA (A : Ar) (n : Nat) (f : Nat → Nat → Int) : Prop where
  ok : A.Ok
  clean : A.faults = 0
  L : A.L = blksF n f
  fx : ∀ g, g < 8 → A.fixed.getD (1 + g) 0 = if g < n then hS g else 0
variable {A : Ar} {n : Nat} {f : Nat → Nat → Int}
theorem SegA.row (S : SegA A n f) {g : Nat} (hg : g < n) : A.row (hS g) = some (rowF (7 * 2 ^ g) (f g)) := by
  unfold Ar.row; rw [if_neg (hS_ne g), S.L]; exact look_blks n f hg
theorem SegA.at_ (S : SegA A n f) {g j : Nat} (hg : g < n) (hj : j < 7 * 2 ^ g) : A.err (hS g) j = 0 ∧ A.get (hS g) j = f g j := by
  refine ⟨?_, ?_⟩
  · unfold Ar.err; rw [S.row hg]; dsimp only; rw [rowF_len, if_pos ⟨by omega, by omega⟩]
  · unfold Ar.get; rw [S.row hg]; exact rowF_get _ hj
theorem SegA.fixed (S : SegA A n f) {g : Nat} (hg : g < 8) : A.err 0 (1 + g) = 0 ∧ A.get 0 (1 + g) = if g < n then hS g else 0 := by
  have h9 := S.ok.nine
  have e1 : A.row 0 = some A.fixed := by unfold Ar.row; rw [if_pos rfl]
  refine ⟨?_, ?_⟩
  · unfold Ar.err; rw [e1]; dsimp only; rw [if_pos ⟨by omega, by rw [h9]; omega⟩]
  · unfold Ar.get
    rw [e1]
    have : ((1 : Int) + (g : Int)).toNat = 1 + g := by omega
    rw [this]
    exact S.fx g hg
theorem SegA.add (S : SegA A n f) {g j : Nat} {v : Int} (hg : g < n) (hj : j < 7 * 2 ^ g) :
    (A.add (hS g) j v).2 = (f g j, 0) ∧ SegA (A.add (hS g) j v).1 n (upd2 f g j ((f g j + v) % 18446744073709551616)) ∧ (A.add (hS g) j v).1.cap = A.cap := by
  obtain ⟨e1, e2⟩ := S.at_ hg hj
  unfold Ar.add
  rw [if_pos e1, e2]
  refine ⟨rfl, ⟨(S.ok.set (blk := hS g) (i := j) (v := (f g j + v) % 18446744073709551616) (by unfold W64; omega)).tally _ _, ?_, ?_, ?_⟩, ?_⟩
  · show (A.set _ _ _).faults = 0
    unfold Ar.set; rw [if_neg (hS_ne g)]; exact S.clean
  · show (A.set _ _ _).L = _
    unfold Ar.set; rw [if_neg (hS_ne g)]
    show setW A.L _ _ _ = _
    rw [S.L, show ((j : Int)).toNat = j by omega, setW_blks]
  · show ∀ g', g' < 8 → (A.set _ _ _).fixed.getD (1 + g') 0 = _
    unfold Ar.set; rw [if_neg (hS_ne g)]; exact S.fx
  · show (A.set _ _ _).cap = _
    unfold Ar.set; rw [if_neg (hS_ne g)]
theorem SegA.tally (S : SegA A n f) (t : Tal) : SegA { A with t := t } n f := ⟨S.ok.tally A.faults t, S.clean, S.L, S.fx⟩
theorem SegA.read (S : SegA A n f) {g j : Nat} (hg : g < n) (hj : j < 7 * 2 ^ g) :
    (A.read (hS g) j).2 = (f g j, 0) ∧ SegA (A.read (hS g) j).1 n f ∧ (A.read (hS g) j).1.cap = A.cap := by
  obtain ⟨e1, e2⟩ := S.at_ hg hj
  unfold Ar.read
  rw [if_pos e1, e2]
  exact ⟨rfl, S.tally _, rfl⟩
theorem SegA.congr {f' : Nat → Nat → Int} (S : SegA A n f) (h : ∀ g j, g < n → j < 7 * 2 ^ g → f g j = f' g j) : SegA A n f' := by
  refine ⟨S.ok, S.clean, ?_, S.fx⟩
  rw [S.L]
  unfold blksF
  apply List.map_congr_left
  intro g hg
  have hg := List.mem_range.1 hg
  congr 1
  unfold rowF
  apply List.map_congr_left
  intro j hj
  exact h g j hg (List.mem_range.1 hj)
/-- As it begins. -/
theorem segA_new : SegA (Ar.new 60000) 0 f := ⟨new_ok (by omega), rfl, rfl, fun g hg => by
  rw [if_neg (by omega)]
  show (List.replicate 9 (0 : Int)).getD (1 + g) 0 = 0
  rw [List.getD_eq_getElem?_getD, List.getElem?_replicate]
  split <;> rfl⟩
theorem lead_blks : ∀ (n k : Nat) (f : Nat → Nat → Int), lead k ((List.range n).map fun g => (⟨hS (g + k), rowF (7 * 2 ^ (g + k)) (f (g + k))⟩ : Blk)) = if n + k ≤ 65534 then n else lead k ((List.range n).map fun g => (⟨hS (g + k), rowF (7 * 2 ^ (g + k)) (f (g + k))⟩ : Blk)) := by
  intro n
  induction n with
  | zero => intro k f; split <;> simp [lead]
  | succ n ih =>
    intro k f
    split
    · rename_i hk
      rw [List.range_succ_eq_map, List.map_cons, List.map_map]
      have e : ((fun g => (⟨hS (g + k), rowF (7 * 2 ^ (g + k)) (f (g + k))⟩ : Blk)) ∘ Nat.succ) = fun g => (⟨hS (g + (k + 1)), rowF (7 * 2 ^ (g + (k + 1))) (f (g + (k + 1)))⟩ : Blk) := by
        funext g
        simp only [Function.comp]
        rw [show g.succ + k = g + (k + 1) by omega]
      rw [e]
      simp only [lead]
      rw [if_pos (by unfold hS; omega), ih (k + 1) f, if_pos (by omega)]
    · rfl
theorem used_blks : ∀ (n : Nat) (f : Nat → Nat → Int), Arn.used (blksF n f) + 7 = 7 * 2 ^ n := by
  intro n f
  induction n with
  | zero => simp [blksF, Arn.used]
  | succ n ih =>
    have e : blksF (n + 1) f = blksF n f ++ [⟨hS n, rowF (7 * 2 ^ n) (f n)⟩] := by simp [blksF, List.range_succ]
    rw [e, used_append]
    have : Arn.used [(⟨hS n, rowF (7 * 2 ^ n) (f n)⟩ : Blk)] = 7 * 2 ^ n := by simp [Arn.used, rowF_len]
    rw [this, Nat.pow_succ]
    omega
def zF : Nat → Nat → Int := fun _ _ => 0
/-- One segment more: a block is laid, and hung. -/
def segStep (A : Ar) (g : Nat) : Ar := ((A.lay (List.replicate (7 * 2 ^ g) 0)).1.write 0 (1 + g) (hS g)).1
theorem SegA.lay (S : SegA A n zF) (hn : n < 8) (hb : A.births = n) (hc : A.cap = 60000) :
    (A.lay (List.replicate (7 * 2 ^ n) 0)).2 = (hS n, 0) ∧ (A.lay (List.replicate (7 * 2 ^ n) 0)).1.Ok ∧ (A.lay (List.replicate (7 * 2 ^ n) 0)).1.err 0 (1 + n) = 0 ∧ ((A.lay (List.replicate (7 * 2 ^ n) 0)).1.write 0 (1 + n) (hS n)).2 = 0 ∧ SegA (segStep A n) (n + 1) zF ∧ (segStep A n).births = n + 1 ∧ (segStep A n).cap = 60000 := by
  have hu := used_blks n zF
  rw [← S.L] at hu
  have hp : 1 ≤ 2 ^ n ∧ 2 ^ n ≤ 128 := ⟨Nat.one_le_two_pow, by have : 2 ^ n ≤ 2 ^ 7 := Nat.pow_le_pow_right (by omega) (by omega); omega⟩
  have hl : lead 0 A.L = n := by
    have := lead_blks n 0 zF
    rw [if_pos (by omega)] at this
    rw [S.L]
    exact this
  have hlen : A.L.length = n := by rw [S.L]; simp [blksF]
  have e : A.lay (List.replicate (7 * 2 ^ n) 0) = ({ A with births := A.births + 1, L := A.L ++ [⟨hS n, List.replicate (7 * 2 ^ n) 0⟩], peak := max A.peak (Arn.used A.L + (List.replicate (7 * 2 ^ n) (0 : Int)).length), t := { A.t with lays := A.t.lays + 1 } }, hS n, 0) := by
    unfold Ar.lay
    rw [if_neg (by simp; omega), if_neg (by simp; omega), hl, hb]
    have h1 : A.L.take n = A.L := List.take_of_length_le (by omega)
    have h2 : A.L.drop n = [] := List.drop_eq_nil_of_le (by omega)
    have h3 : ((n : Int) + 1) * 65536 + ((n : Int) + 1) = hS n := by unfold hS; omega
    rw [h1, h2, h3]
  have hok := lay_ok S.ok (ws := List.replicate (7 * 2 ^ n) 0) (by simp; omega) (by simp; omega) (by simp; omega) (by omega) (fun v hv => by
    rw [(List.mem_replicate.1 hv).2]; unfold W64; omega)
  unfold segStep
  rw [e] at hok ⊢
  have h9 := S.ok.nine
  have hrow : ({ A with births := A.births + 1, L := A.L ++ [⟨hS n, List.replicate (7 * 2 ^ n) 0⟩], peak := max A.peak (Arn.used A.L + (List.replicate (7 * 2 ^ n) (0 : Int)).length), t := { A.t with lays := A.t.lays + 1 } } : Ar).row 0 = some A.fixed := by unfold Ar.row; rw [if_pos rfl]
  have herr : ({ A with births := A.births + 1, L := A.L ++ [⟨hS n, List.replicate (7 * 2 ^ n) 0⟩], peak := max A.peak (Arn.used A.L + (List.replicate (7 * 2 ^ n) (0 : Int)).length), t := { A.t with lays := A.t.lays + 1 } } : Ar).err 0 (1 + n) = 0 := by
    unfold Ar.err; rw [hrow]; dsimp only; rw [if_pos ⟨by omega, by rw [h9]; omega⟩]
  refine ⟨rfl, hok, herr, ?_, ?_, ?_, ?_⟩
  · unfold Ar.write; rw [if_pos herr]
  · unfold Ar.write
    rw [if_pos herr]
    refine ⟨(hok.set (blk := 0) (i := 1 + (n : Int)) (v := hS n) (hS_64 hn)).tally _ _, ?_, ?_, ?_⟩
    · show (Ar.set _ _ _ _).faults = 0
      unfold Ar.set; rw [if_pos rfl]; exact S.clean
    · show (Ar.set _ _ _ _).L = _
      unfold Ar.set; rw [if_pos rfl]
      show A.L ++ _ = _
      rw [S.L]
      simp only [blksF, List.range_succ, List.map_append, List.map_cons, List.map_nil]
      congr 3
      apply List.ext_getElem?
      intro i
      simp only [rowF, List.getElem?_replicate, List.getElem?_map]
      by_cases hi : i < 7 * 2 ^ n <;> simp [hi, zF]
    · show ∀ g, g < 8 → (Ar.set _ _ _ _).fixed.getD (1 + g) 0 = _
      unfold Ar.set; rw [if_pos rfl]
      intro g hg
      show (A.fixed.set ((1 : Int) + (n : Int)).toNat (hS n)).getD (1 + g) 0 = _
      rw [show ((1 : Int) + (n : Int)).toNat = 1 + n by omega]
      by_cases eg : g = n
      · subst eg
        rw [if_pos (by omega), List.getD_eq_getElem?_getD, List.getElem?_set_self (by omega)]
        rfl
      · rw [List.getD_eq_getElem?_getD, List.getElem?_set_ne (by omega), ← List.getD_eq_getElem?_getD, S.fx g hg]
        by_cases h1 : g < n
        · rw [if_pos h1, if_pos (by omega)]
        · rw [if_neg h1, if_neg (by omega)]
  · unfold Ar.write; rw [if_pos herr]
    show (Ar.set _ _ _ _).births = _
    unfold Ar.set; rw [if_pos rfl]; show A.births + 1 = _; omega
  · unfold Ar.write; rw [if_pos herr]
    show (Ar.set _ _ _ _).cap = _
    unfold Ar.set; rw [if_pos rfl]; exact hc

/-! ### a count -/
structure Ct where
  seg : Int
  slot : Nat
  first : Nat
  last : Nat
  more : Int
def Ct.step (C : Ct) (A : Ar) : Ar × Ct := if C.first < C.last then ((A.add C.seg (adN C.slot C.first) C.more).1, { C with first := C.first + 1 }) else (A, C)
def two64 : Int := 18446744073709551615
structure Ct.Fit (C : Ct) : Prop where
  slot : C.slot < 255
  seg : W64 C.seg
  non : C.seg ≠ 0
  last : C.last ≤ kN C.slot
  le : C.first ≤ C.last
  more : W64 C.more
theorem Ct.Fit.step {C : Ct} (h : C.Fit) (A : Ar) : (C.step A).2.Fit := by
  unfold Ct.step
  split
  · exact ⟨h.slot, h.seg, h.non, h.last, by simp; omega, h.more⟩
  · exact h
end Cnt
end Go.Proofs.YtlghinjggkgfmaaGreat
