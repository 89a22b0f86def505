/- Counts, plainly: segments' blocks as functions of their words, a count as a state. No program is spoken of here. -/
/- Counts, plainly: what a step makes of the counters; sums. No program is spoken of here. -/
/- Those that enter and exit, plainly. No program is spoken of here. -/
/- Collects, plainly: a collect as a state upon segments whose words are a function. No program is spoken of here. -/
import Derived.Test.YtpajafecodkndaaGreatClaimStep
set_option linter.unusedVariables false
set_option linter.unusedSimpArgs false
namespace Go.Proofs.YtpajafecodkndaaGreat
namespace Cnt
open Arn Clm

/-- How long a slot's path is, and its k-th node. -/
def kN (s : Nat) : Nat := sgN s + 1
def ndN (s k : Nat) : Nat := (s + 1) / 2 ^ k
theorem nd_fin : ∀ s : Fin 255, ∀ k : Fin 8, k.val ≤ sgN s.val → 1 ≤ ndN s.val k.val ∧ ndN s.val k.val < 2 * 2 ^ sgN s.val := by decide +kernel
theorem nd_facts {s k : Nat} (h : s < 255) (hk : k < kN s) : 1 ≤ ndN s k ∧ ndN s k < 2 * 2 ^ sgN s := by
  have := (sg_facts h).1
  unfold kN at hk
  exact nd_fin ⟨s, h⟩ ⟨k, by omega⟩ (by show k ≤ sgN s; omega)
theorem nd_down (s : Nat) {k l : Nat} (h : k < l) (h1 : 1 ≤ ndN s k) : ndN s l < ndN s k := by
  obtain ⟨d, rfl⟩ : ∃ d, l = k + (d + 1) := ⟨l - k - 1, by omega⟩
  have e : ndN s (k + (d + 1)) = ndN s k / 2 ^ (d + 1) := by
    unfold ndN
    rw [Nat.pow_add, Nat.div_div_eq_div_mul]
  rw [e]
  exact Nat.div_lt_self h1 (Nat.one_lt_two_pow (by omega))
theorem nd_inj {s k l : Nat} (h : s < 255) (hk : k < kN s) (hl : l < kN s) (e : ndN s k = ndN s l) : k = l := by
  have h1 := (nd_facts h hk).1
  have h2 := (nd_facts h hl).1
  rcases Nat.lt_trichotomy k l with h3 | h3 | h3
  · have := nd_down s h3 h1; omega
  · exact h3
  · have := nd_down s h3 h2; omega
theorem kN_le {s : Nat} (h : s < 255) : 1 ≤ kN s ∧ kN s ≤ 8 := by
  have := (sg_facts h).1
  unfold kN; omega
/-- Where the counter of the k-th node lies. -/
def adN (s k : Nat) : Nat := 5 * 2 ^ sgN s + ndN s k
theorem ad_lt {s k : Nat} (h : s < 255) (hk : k < kN s) : adN s k < 7 * 2 ^ sgN s := by
  have := nd_facts h hk
  unfold adN; omega
/-- Is the word j of the segment g one of the counters lo .. hi - 1 of the path? -/
def con (s lo hi g j : Nat) : Nat := if g = sgN s ∧ (List.range hi).any (fun k => decide (lo ≤ k ∧ j = adN s k)) = true then 1 else 0
theorem any_iff {s lo hi j : Nat} : (List.range hi).any (fun k => decide (lo ≤ k ∧ j = adN s k)) = true ↔ ∃ k, lo ≤ k ∧ k < hi ∧ j = adN s k := by
  rw [List.any_eq_true]
  constructor
  · rintro ⟨k, hk, h⟩
    have := of_decide_eq_true h
    exact ⟨k, this.1, List.mem_range.1 hk, this.2⟩
  · rintro ⟨k, h1, h2, h3⟩
    exact ⟨k, List.mem_range.2 h2, decide_eq_true ⟨h1, h3⟩⟩
theorem con_le (s lo hi g j : Nat) : con s lo hi g j ≤ 1 := by unfold con; split <;> omega
theorem con_yes {s lo hi g j k : Nat} (h : g = sgN s) (h1 : lo ≤ k) (h2 : k < hi) (h3 : j = adN s k) : con s lo hi g j = 1 := by
  unfold con
  rw [if_pos ⟨h, any_iff.2 ⟨k, h1, h2, h3⟩⟩]
theorem con_no {s lo hi g j : Nat} (h : g = sgN s → ∀ k, lo ≤ k → k < hi → j ≠ adN s k) : con s lo hi g j = 0 := by
  unfold con
  rw [if_neg]
  rintro ⟨h1, h2⟩
  obtain ⟨k, k1, k2, k3⟩ := any_iff.1 h2
  exact h h1 k k1 k2 k3
theorem con_none {s lo hi : Nat} (h : hi ≤ lo) (g j : Nat) : con s lo hi g j = 0 := con_no (fun _ k k1 k2 => by omega)
theorem con_up {s lo hi : Nat} (hs : s < 255) (h1 : lo ≤ hi) (h2 : hi < kN s) (g j : Nat) : con s lo (hi + 1) g j = con s lo hi g j + (if g = sgN s ∧ j = adN s hi then 1 else 0) := by
  by_cases hg : g = sgN s
  · by_cases hj : j = adN s hi
    · rw [if_pos ⟨hg, hj⟩, con_yes hg h1 (Nat.lt_succ_self _) hj, con_no]
      intro _ k k1 k2 k3
      have := nd_inj hs h2 (show k < kN s by omega) (by unfold adN at hj k3; omega)
      omega
    · rw [if_neg (fun h => hj h.2)]
      by_cases hk : ∃ k, lo ≤ k ∧ k < hi ∧ j = adN s k
      · obtain ⟨k, k1, k2, k3⟩ := hk
        rw [con_yes hg k1 (show k < hi + 1 by omega) k3, con_yes hg k1 k2 k3]
      · rw [con_no (fun _ k k1 k2 k3 => hk ⟨k, k1, k2, k3⟩), con_no]
        intro _ k k1 k2 k3
        by_cases e : k = hi
        · subst e; exact hj k3
        · exact hk ⟨k, k1, by omega, k3⟩
  · rw [if_neg (fun h => hg h.1), con_no (fun h => absurd h hg), con_no (fun h => absurd h hg)]
theorem con_down {s lo hi : Nat} (hs : s < 255) (h1 : lo < hi) (h2 : hi ≤ kN s) (g j : Nat) : con s lo hi g j = con s (lo + 1) hi g j + (if g = sgN s ∧ j = adN s lo then 1 else 0) := by
  by_cases hg : g = sgN s
  · by_cases hj : j = adN s lo
    · rw [if_pos ⟨hg, hj⟩, con_yes hg (Nat.le_refl _) h1 hj, con_no]
      intro _ k k1 k2 k3
      have := nd_inj hs (show lo < kN s by omega) (show k < kN s by omega) (by unfold adN at hj k3; omega)
      omega
    · rw [if_neg (fun h => hj h.2)]
      by_cases hk : ∃ k, lo + 1 ≤ k ∧ k < hi ∧ j = adN s k
      · obtain ⟨k, k1, k2, k3⟩ := hk
        rw [con_yes hg (show lo ≤ k by omega) k2 k3, con_yes hg k1 k2 k3]
      · rw [con_no (s := s) (lo := lo + 1) (fun _ k k1 k2 k3 => hk ⟨k, k1, k2, k3⟩), con_no]
        intro _ k k1 k2 k3
        by_cases e : k = lo
        · subst e; exact hj k3
        · exact hk ⟨k, by omega, k2, k3⟩
  · rw [if_neg (fun h => hg h.1), con_no (fun h => absurd h hg), con_no (fun h => absurd h hg)]

/-! ### segments -/
def hS (g : Nat) : Int := ((g : Int) + 1) * 65537
def rowF (n : Nat) (f : Nat → Int) : List Int := (List.range n).map f
def blksF (n : Nat) (f : Nat → Nat → Int) : List Blk := (List.range n).map fun g => ⟨hS g, rowF (7 * 2 ^ g) (f g)⟩
def upd2 {α : Type} (f : Nat → Nat → α) (g j : Nat) (v : α) : Nat → Nat → α := fun x y => if x = g ∧ y = j then v else f x y
theorem hS_inj {g k : Nat} (h : hS g = hS k) : g = k := by unfold hS at h; omega
theorem hS_64 {g : Nat} (h : g < 8) : W64 (hS g) := by unfold hS W64; omega
theorem hS_ne (g : Nat) : hS g ≠ 0 := by unfold hS; omega
theorem rowF_len (n : Nat) (f : Nat → Int) : (rowF n f).length = n := by simp [rowF]
theorem rowF_get {n j : Nat} (f : Nat → Int) (h : j < n) : (rowF n f).getD j 0 = f j := by simp [rowF, List.getD_eq_getElem?_getD, h]
theorem rowF_set (n j : Nat) (f : Nat → Int) (v : Int) : (rowF n f).set j v = rowF n (fun y => if y = j then v else f y) := by
  apply List.ext_getElem?
  intro i
  simp only [rowF, List.getElem?_set, List.getElem?_map, List.length_map, List.length_range]
  by_cases hi : i < n
  · by_cases e : j = i
    · subst e; simp [hi]
    · have e' : ¬ i = j := fun h => e h.symm
      simp [hi, e, e']
  · by_cases e : j = i
    · subst e; simp [hi]
    · simp [hi, e]
theorem look_blks : ∀ (n : Nat) (f : Nat → Nat → Int) {g : Nat}, g < n → Arn.look (blksF n f) (hS g) = some (rowF (7 * 2 ^ g) (f g)) := by
  intro n f g hg
  unfold Arn.look blksF
  have : (List.map (fun g => (⟨hS g, rowF (7 * 2 ^ g) (f g)⟩ : Blk)) (List.range n)).find? (fun x => x.h == hS g) = some ⟨hS g, rowF (7 * 2 ^ g) (f g)⟩ := by
    rw [List.find?_map]
    have h1 : (List.range n).find? ((fun x : Blk => x.h == hS g) ∘ fun g => (⟨hS g, rowF (7 * 2 ^ g) (f g)⟩ : Blk)) = some g := by
      rw [List.find?_eq_some_iff_append]
      refine ⟨by simp, List.range g, (List.range (n - g - 1)).map (fun i => g + 1 + i), ?_, ?_⟩
      · apply List.ext_getElem?
        intro i
        by_cases h1 : i < g
        · rw [List.getElem?_append_left (by simpa using h1)]
          simp [h1, Nat.lt_trans h1 hg]
        · rw [List.getElem?_append_right (by simpa using h1)]
          simp only [List.length_range]
          by_cases h2 : i = g
          · subst h2; simp [hg]
          · obtain ⟨d, hd⟩ : ∃ d, i - g = d + 1 := ⟨i - g - 1, by omega⟩
            rw [hd, List.getElem?_cons_succ]
            by_cases h3 : i < n
            · rw [List.getElem?_range h3, List.getElem?_map, List.getElem?_range (by omega)]
              simp; omega
            · rw [List.getElem?_eq_none (by simpa using h3), List.getElem?_eq_none (by simp; omega)]
      · intro a ha
        have := List.mem_range.1 ha
        simp only [Function.comp, Bool.not_eq_true', beq_eq_false_iff_ne]
        exact fun e => by have := hS_inj e; omega
    rw [h1]; rfl
  rw [this]; rfl
theorem setW_blks (n : Nat) (f : Nat → Nat → Int) (g j : Nat) (v : Int) : setW (blksF n f) (hS g) j v = blksF n (upd2 f g j v) := by
  unfold setW blksF
  rw [List.map_map]
  apply List.map_congr_left
  intro k hk
  simp only [Function.comp]
  by_cases e : k = g
  · subst e
    rw [if_pos rfl, rowF_set]
    congr 2
    funext y
    unfold upd2
    by_cases ey : y = j <;> simp [ey]
  · rw [if_neg (fun h => e (hS_inj h))]
    congr 2
    funext y
    unfold upd2
    rw [if_neg (fun h => e h.1)]
/-- An arena that has the segments 0 .. n - 1, the word j of the segment g is f g j. -/
structure SegA (A : Ar) (n : Nat) (f : Nat → Nat → Int) : Prop where
  ok : A.Ok
  clean : A.faults = 0
  L : A.L = blksF n f
  fx : ∀ g, g < 8 → A.fixed.getD (1 + g) 0 = if g < n then hS g else 0
variable {A : Ar} {n : Nat} {f : Nat → Nat → Int}
theorem SegA.row (S : SegA A n f) {g : Nat} (hg : g < n) : A.row (hS g) = some (rowF (7 * 2 ^ g) (f g)) := by
  unfold Ar.row; rw [if_neg (hS_ne g), S.L]; exact look_blks n f hg
theorem SegA.at_ (S : SegA A n f) {g j : Nat} (hg : g < n) (hj : j < 7 * 2 ^ g) : A.err (hS g) j = 0 ∧ A.get (hS g) j = f g j := by
  refine ⟨?_, ?_⟩
  · unfold Ar.err; rw [S.row hg]; dsimp only; rw [rowF_len, if_pos ⟨by omega, by omega⟩]
  · unfold Ar.get; rw [S.row hg]; exact rowF_get _ hj
theorem SegA.fixed (S : SegA A n f) {g : Nat} (hg : g < 8) : A.err 0 (1 + g) = 0 ∧ A.get 0 (1 + g) = if g < n then hS g else 0 := by
  have h9 := S.ok.nine
  have e1 : A.row 0 = some A.fixed := by unfold Ar.row; rw [if_pos rfl]
  refine ⟨?_, ?_⟩
  · unfold Ar.err; rw [e1]; dsimp only; rw [if_pos ⟨by omega, by rw [h9]; omega⟩]
  · unfold Ar.get
    rw [e1]
    have : ((1 : Int) + (g : Int)).toNat = 1 + g := by omega
    rw [this]
    exact S.fx g hg
theorem SegA.add (S : SegA A n f) {g j : Nat} {v : Int} (hg : g < n) (hj : j < 7 * 2 ^ g) :
    (A.add (hS g) j v).2 = (f g j, 0) ∧ SegA (A.add (hS g) j v).1 n (upd2 f g j ((f g j + v) % 18446744073709551616)) ∧ (A.add (hS g) j v).1.cap = A.cap := by
  obtain ⟨e1, e2⟩ := S.at_ hg hj
  unfold Ar.add
  rw [if_pos e1, e2]
  refine ⟨rfl, ⟨(S.ok.set (blk := hS g) (i := j) (v := (f g j + v) % 18446744073709551616) (by unfold W64; omega)).tally _ _, ?_, ?_, ?_⟩, ?_⟩
  · show (A.set _ _ _).faults = 0
    unfold Ar.set; rw [if_neg (hS_ne g)]; exact S.clean
  · show (A.set _ _ _).L = _
    unfold Ar.set; rw [if_neg (hS_ne g)]
    show setW A.L _ _ _ = _
    rw [S.L, show ((j : Int)).toNat = j by omega, setW_blks]
  · show ∀ g', g' < 8 → (A.set _ _ _).fixed.getD (1 + g') 0 = _
    unfold Ar.set; rw [if_neg (hS_ne g)]; exact S.fx
  · show (A.set _ _ _).cap = _
    unfold Ar.set; rw [if_neg (hS_ne g)]
theorem SegA.tally (S : SegA A n f) (t : Tal) : SegA { A with t := t } n f := ⟨S.ok.tally A.faults t, S.clean, S.L, S.fx⟩
theorem SegA.read (S : SegA A n f) {g j : Nat} (hg : g < n) (hj : j < 7 * 2 ^ g) :
    (A.read (hS g) j).2 = (f g j, 0) ∧ SegA (A.read (hS g) j).1 n f ∧ (A.read (hS g) j).1.cap = A.cap := by
  obtain ⟨e1, e2⟩ := S.at_ hg hj
  unfold Ar.read
  rw [if_pos e1, e2]
  exact ⟨rfl, S.tally _, rfl⟩
theorem SegA.congr {f' : Nat → Nat → Int} (S : SegA A n f) (h : ∀ g j, g < n → j < 7 * 2 ^ g → f g j = f' g j) : SegA A n f' := by
  refine ⟨S.ok, S.clean, ?_, S.fx⟩
  rw [S.L]
  unfold blksF
  apply List.map_congr_left
  intro g hg
  have hg := List.mem_range.1 hg
  congr 1
  unfold rowF
  apply List.map_congr_left
  intro j hj
  exact h g j hg (List.mem_range.1 hj)
/-- As it begins. -/
theorem segA_new : SegA (Ar.new 60000) 0 f := ⟨new_ok (by omega), rfl, rfl, fun g hg => by
  rw [if_neg (by omega)]
  show (List.replicate 9 (0 : Int)).getD (1 + g) 0 = 0
  rw [List.getD_eq_getElem?_getD, List.getElem?_replicate]
  split <;> rfl⟩
theorem lead_blks : ∀ (n k : Nat) (f : Nat → Nat → Int), lead k ((List.range n).map fun g => (⟨hS (g + k), rowF (7 * 2 ^ (g + k)) (f (g + k))⟩ : Blk)) = if n + k ≤ 65534 then n else lead k ((List.range n).map fun g => (⟨hS (g + k), rowF (7 * 2 ^ (g + k)) (f (g + k))⟩ : Blk)) := by
  intro n
  induction n with
  | zero => intro k f; split <;> simp [lead]
  | succ n ih =>
    intro k f
    split
    · rename_i hk
      rw [List.range_succ_eq_map, List.map_cons, List.map_map]
      have e : ((fun g => (⟨hS (g + k), rowF (7 * 2 ^ (g + k)) (f (g + k))⟩ : Blk)) ∘ Nat.succ) = fun g => (⟨hS (g + (k + 1)), rowF (7 * 2 ^ (g + (k + 1))) (f (g + (k + 1)))⟩ : Blk) := by
        funext g
        simp only [Function.comp]
        rw [show g.succ + k = g + (k + 1) by omega]
      rw [e]
      simp only [lead]
      rw [if_pos (by unfold hS; omega), ih (k + 1) f, if_pos (by omega)]
    · rfl
theorem used_blks : ∀ (n : Nat) (f : Nat → Nat → Int), Arn.used (blksF n f) + 7 = 7 * 2 ^ n := by
  intro n f
  induction n with
  | zero => simp [blksF, Arn.used]
  | succ n ih =>
    have e : blksF (n + 1) f = blksF n f ++ [⟨hS n, rowF (7 * 2 ^ n) (f n)⟩] := by simp [blksF, List.range_succ]
    rw [e, used_append]
    have : Arn.used [(⟨hS n, rowF (7 * 2 ^ n) (f n)⟩ : Blk)] = 7 * 2 ^ n := by simp [Arn.used, rowF_len]
    rw [this, Nat.pow_succ]
    omega
def zF : Nat → Nat → Int := fun _ _ => 0
/-- One segment more: a block is laid, and hung. -/
def segStep (A : Ar) (g : Nat) : Ar := ((A.lay (List.replicate (7 * 2 ^ g) 0)).1.write 0 (1 + g) (hS g)).1
theorem SegA.lay (S : SegA A n zF) (hn : n < 8) (hb : A.births = n) (hc : A.cap = 60000) :
    (A.lay (List.replicate (7 * 2 ^ n) 0)).2 = (hS n, 0) ∧ (A.lay (List.replicate (7 * 2 ^ n) 0)).1.Ok ∧ (A.lay (List.replicate (7 * 2 ^ n) 0)).1.err 0 (1 + n) = 0 ∧ ((A.lay (List.replicate (7 * 2 ^ n) 0)).1.write 0 (1 + n) (hS n)).2 = 0 ∧ SegA (segStep A n) (n + 1) zF ∧ (segStep A n).births = n + 1 ∧ (segStep A n).cap = 60000 := by
  have hu := used_blks n zF
  rw [← S.L] at hu
  have hp : 1 ≤ 2 ^ n ∧ 2 ^ n ≤ 128 := ⟨Nat.one_le_two_pow, by have : 2 ^ n ≤ 2 ^ 7 := Nat.pow_le_pow_right (by omega) (by omega); omega⟩
  have hl : lead 0 A.L = n := by
    have := lead_blks n 0 zF
    rw [if_pos (by omega)] at this
    rw [S.L]
    exact this
  have hlen : A.L.length = n := by rw [S.L]; simp [blksF]
  have e : A.lay (List.replicate (7 * 2 ^ n) 0) = ({ A with births := A.births + 1, L := A.L ++ [⟨hS n, List.replicate (7 * 2 ^ n) 0⟩], peak := max A.peak (Arn.used A.L + (List.replicate (7 * 2 ^ n) (0 : Int)).length), t := { A.t with lays := A.t.lays + 1 } }, hS n, 0) := by
    unfold Ar.lay
    rw [if_neg (by simp; omega), if_neg (by simp; omega), hl, hb]
    have h1 : A.L.take n = A.L := List.take_of_length_le (by omega)
    have h2 : A.L.drop n = [] := List.drop_eq_nil_of_le (by omega)
    have h3 : ((n : Int) + 1) * 65536 + ((n : Int) + 1) = hS n := by unfold hS; omega
    rw [h1, h2, h3]
  have hok := lay_ok S.ok (ws := List.replicate (7 * 2 ^ n) 0) (by simp; omega) (by simp; omega) (by simp; omega) (by omega) (fun v hv => by
    rw [(List.mem_replicate.1 hv).2]; unfold W64; omega)
  unfold segStep
  rw [e] at hok ⊢
  have h9 := S.ok.nine
  have hrow : ({ A with births := A.births + 1, L := A.L ++ [⟨hS n, List.replicate (7 * 2 ^ n) 0⟩], peak := max A.peak (Arn.used A.L + (List.replicate (7 * 2 ^ n) (0 : Int)).length), t := { A.t with lays := A.t.lays + 1 } } : Ar).row 0 = some A.fixed := by unfold Ar.row; rw [if_pos rfl]
  have herr : ({ A with births := A.births + 1, L := A.L ++ [⟨hS n, List.replicate (7 * 2 ^ n) 0⟩], peak := max A.peak (Arn.used A.L + (List.replicate (7 * 2 ^ n) (0 : Int)).length), t := { A.t with lays := A.t.lays + 1 } } : Ar).err 0 (1 + n) = 0 := by
    unfold Ar.err; rw [hrow]; dsimp only; rw [if_pos ⟨by omega, by rw [h9]; omega⟩]
  refine ⟨rfl, hok, herr, ?_, ?_, ?_, ?_⟩
  · unfold Ar.write; rw [if_pos herr]
  · unfold Ar.write
    rw [if_pos herr]
    refine ⟨(hok.set (blk := 0) (i := 1 + (n : Int)) (v := hS n) (hS_64 hn)).tally _ _, ?_, ?_, ?_⟩
    · show (Ar.set _ _ _ _).faults = 0
      unfold Ar.set; rw [if_pos rfl]; exact S.clean
    · show (Ar.set _ _ _ _).L = _
      unfold Ar.set; rw [if_pos rfl]
      show A.L ++ _ = _
      rw [S.L]
      simp only [blksF, List.range_succ, List.map_append, List.map_cons, List.map_nil]
      congr 3
      apply List.ext_getElem?
      intro i
      simp only [rowF, List.getElem?_replicate, List.getElem?_map]
      by_cases hi : i < 7 * 2 ^ n <;> simp [hi, zF]
    · show ∀ g, g < 8 → (Ar.set _ _ _ _).fixed.getD (1 + g) 0 = _
      unfold Ar.set; rw [if_pos rfl]
      intro g hg
      show (A.fixed.set ((1 : Int) + (n : Int)).toNat (hS n)).getD (1 + g) 0 = _
      rw [show ((1 : Int) + (n : Int)).toNat = 1 + n by omega]
      by_cases eg : g = n
      · subst eg
        rw [if_pos (by omega), List.getD_eq_getElem?_getD, List.getElem?_set_self (by omega)]
        rfl
      · rw [List.getD_eq_getElem?_getD, List.getElem?_set_ne (by omega), ← List.getD_eq_getElem?_getD, S.fx g hg]
        by_cases h1 : g < n
        · rw [if_pos h1, if_pos (by omega)]
        · rw [if_neg h1, if_neg (by omega)]
  · unfold Ar.write; rw [if_pos herr]
    show (Ar.set _ _ _ _).births = _
    unfold Ar.set; rw [if_pos rfl]; show A.births + 1 = _; omega
  · unfold Ar.write; rw [if_pos herr]
    show (Ar.set _ _ _ _).cap = _
    unfold Ar.set; rw [if_pos rfl]; exact hc

/-! ### a count -/
structure Ct where
  seg : Int
  slot : Nat
  first : Nat
  last : Nat
  more : Int
def Ct.step (C : Ct) (A : Ar) : Ar × Ct := if C.first < C.last then ((A.add C.seg (adN C.slot C.first) C.more).1, { C with first := C.first + 1 }) else (A, C)
def two64 : Int := 18446744073709551615
structure Ct.Fit (C : Ct) : Prop where
  slot : C.slot < 255
  seg : W64 C.seg
  non : C.seg ≠ 0
  last : C.last ≤ kN C.slot
  le : C.first ≤ C.last
  more : W64 C.more
theorem Ct.Fit.step {C : Ct} (h : C.Fit) (A : Ar) : (C.step A).2.Fit := by
  unfold Ct.step
  split
  · exact ⟨h.slot, h.seg, h.non, h.last, by simp; omega, h.more⟩
  · exact h
end Cnt
end Go.Proofs.YtpajafecodkndaaGreat

set_option linter.unusedVariables false
set_option linter.unusedSimpArgs false
namespace Go.Proofs.YtpajafecodkndaaGreat
namespace Cnt
open Arn Clm

variable {A : Ar} {n s lo hi x : Nat} {B : Nat → Nat → Nat}
theorem SegA.up (S : SegA A n (fun g j => ((B g j + con s lo x g j : Nat) : Int))) (hs : s < 255) (hg : sgN s < n) (h1 : lo ≤ x) (h2 : x < kN s) (hB : ∀ g j, B g j ≤ 1000) :
    SegA (A.add (hS (sgN s)) (adN s x) 1).1 n (fun g j => ((B g j + con s lo (x + 1) g j : Nat) : Int)) := by
  refine (S.add hg (ad_lt hs h2)).2.1.congr (fun g j _ _ => ?_)
  unfold upd2
  dsimp only
  rw [con_up hs h1 h2]
  have := hB g j
  have := con_le s lo x g j
  by_cases e : g = sgN s ∧ j = adN s x
  · rw [if_pos e, if_pos e]
    obtain ⟨rfl, rfl⟩ := e
    omega
  · rw [if_neg e, if_neg e]; omega
theorem SegA.down (S : SegA A n (fun g j => ((B g j + con s lo hi g j : Nat) : Int))) (hs : s < 255) (hg : sgN s < n) (h1 : lo < hi) (h2 : hi ≤ kN s) (hB : ∀ g j, B g j ≤ 1000) :
    SegA (A.add (hS (sgN s)) (adN s lo) 18446744073709551615).1 n (fun g j => ((B g j + con s (lo + 1) hi g j : Nat) : Int)) := by
  refine (S.add hg (ad_lt hs (by omega))).2.1.congr (fun g j _ _ => ?_)
  unfold upd2
  dsimp only
  rw [con_down hs h1 h2 g j]
  have := hB g j
  have := con_le s (lo + 1) hi g j
  by_cases e : g = sgN s ∧ j = adN s lo
  · rw [if_pos e]
    obtain ⟨rfl, rfl⟩ := e
    have h3 := con_down hs h1 h2 (sgN s) (adN s lo)
    rw [if_pos ⟨rfl, rfl⟩] at h3
    rw [h3]
    omega
  · rw [if_neg e, if_neg e]; rfl
/-- One that enters the slot s, behind j steps. -/
def enC (s j : Nat) : Ct := ⟨hS (sgN s), s, min j (kN s), kN s, 1⟩
theorem enC_step (s j : Nat) (A : Ar) : ((enC s j).step A).2 = enC s (j + 1) := by
  unfold Ct.step enC
  dsimp only
  by_cases h : min j (kN s) < kN s
  · rw [if_pos h]
    have e : min (j + 1) (kN s) = min j (kN s) + 1 := by omega
    rw [e]
  · rw [if_neg h]
    have e : min (j + 1) (kN s) = min j (kN s) := by omega
    rw [e]
theorem enC_fit {s : Nat} (h : s < 255) (j : Nat) : (enC s j).Fit := ⟨h, hS_64 (sg_facts h).1, hS_ne _, Nat.le_refl _, Nat.min_le_right _ _, show W64 1 by unfold W64; omega⟩
theorem enC_seg {j : Nat} (S : SegA A n (fun g y => ((B g y + con s 0 (min j (kN s)) g y : Nat) : Int))) (hs : s < 255) (hg : sgN s < n) (hB : ∀ g j, B g j ≤ 1000) : SegA ((enC s j).step A).1 n (fun g y => ((B g y + con s 0 (min (j + 1) (kN s)) g y : Nat) : Int)) := by
  unfold Ct.step enC
  dsimp only
  by_cases h : min j (kN s) < kN s
  · rw [if_pos h]
    have e : min (j + 1) (kN s) = min j (kN s) + 1 := by omega
    rw [e]
    exact S.up hs hg (Nat.zero_le _) h hB
  · rw [if_neg h]
    have e : min (j + 1) (kN s) = min j (kN s) := by omega
    rw [e]
    exact S
/-! ### CountTops -/
def tF (sl : Nat → Nat) (m g j : Nat) : Nat := sumTo (fun i => con (sl i) 0 (kN (sl i)) g j) m
def topN (sl : Nat → Nat) (m g : Nat) : Nat := sumTo (fun i => if sgN (sl i) = g then 1 else 0) m
def ownN (sl : Nat → Nat) (m s : Nat) : Nat := sumTo (fun i => if sl i = s then 1 else 0) m
theorem con_top : ∀ s : Fin 15, ∀ g : Fin 4, con s.val 0 (kN s.val) g.val (5 * 2 ^ g.val + 1) = if sgN s.val = g.val then 1 else 0 := by decide +kernel
theorem con_own : ∀ s t : Fin 15, con t.val 0 (kN t.val) (sgN s.val) (5 * 2 ^ sgN s.val + (s.val + 1)) = if t.val = s.val then 1 else 0 := by decide +kernel
theorem tF_top {sl : Nat → Nat} (hs : ∀ i, sl i < 15) (m : Nat) {g : Nat} (hg : g < 4) : tF sl m g (5 * 2 ^ g + 1) = topN sl m g := sum_same m (fun i _ => con_top ⟨sl i, hs i⟩ ⟨g, hg⟩)
theorem tF_own {sl : Nat → Nat} (hs : ∀ i, sl i < 15) (m : Nat) {s : Nat} (h : s < 15) : tF sl m (sgN s) (5 * 2 ^ sgN s + (s + 1)) = ownN sl m s := sum_same m (fun i _ => con_own ⟨s, h⟩ ⟨sl i, hs i⟩)
theorem tF_le (sl : Nat → Nat) (m g j : Nat) : tF sl m g j ≤ m := by
  have := sum_le (f := fun i => con (sl i) 0 (kN (sl i)) g j) (k := 1) m (fun i _ => con_le _ _ _ _ _)
  unfold tF; omega
theorem topN_le (sl : Nat → Nat) (m g : Nat) : topN sl m g ≤ m := by
  have := sum_le (f := fun i => if sgN (sl i) = g then 1 else 0) (k := 1) m (fun i _ => by split <;> omega)
  unfold topN; omega
theorem ownN_le (sl : Nat → Nat) (m s : Nat) : ownN sl m s ≤ m := by
  have := sum_le (f := fun i => if sl i = s then 1 else 0) (k := 1) m (fun i _ => by split <;> omega)
  unfold ownN; omega
theorem tF_succ (sl : Nat → Nat) (m g j : Nat) : tF sl (m + 1) g j = tF sl m g j + con (sl m) 0 (kN (sl m)) g j := rfl
theorem topN_succ (sl : Nat → Nat) (m : Nat) : topN sl (m + 1) = upd (topN sl m) (sgN (sl m)) (topN sl m (sgN (sl m)) + 1) := by
  funext g
  show topN sl m g + (if sgN (sl m) = g then 1 else 0) = _
  by_cases e : g = sgN (sl m)
  · subst e; rw [upd_at, if_pos rfl]
  · rw [upd_ne _ _ e, if_neg (fun h => e h.symm)]; rfl
theorem ownN_succ (sl : Nat → Nat) (m : Nat) : ownN sl (m + 1) = upd (ownN sl m) (sl m) (ownN sl m (sl m) + 1) := by
  funext s
  show ownN sl m s + (if sl m = s then 1 else 0) = _
  by_cases e : s = sl m
  · subst e; rw [upd_at, if_pos rfl]
  · rw [upd_ne _ _ e, if_neg (fun h => e h.symm)]; rfl
theorem tF_zero (sl : Nat → Nat) : (fun g j => ((tF sl 0 g j : Nat) : Int)) = zF := by
  funext g j; rfl
end Cnt
end Go.Proofs.YtpajafecodkndaaGreat

set_option linter.unusedVariables false
set_option linter.unusedSimpArgs false
namespace Go.Proofs.YtpajafecodkndaaGreat
namespace Cnt
open Arn Clm

def lessM : Int := 18446744073709551615
/-- What one that counts has counted. -/
def conO (o : Option Ct) (g j : Nat) : Nat := match o with
  | none => 0
  | some C => if C.more = 1 then con C.slot 0 C.first g j else con C.slot C.first (kN C.slot) g j
theorem conO_le (o : Option Ct) (g j : Nat) : conO o g j ≤ 1 := by
  unfold conO
  split
  · omega
  · split <;> exact con_le _ _ _ _ _
def bF (c : Nat → Option Ct) (n g j : Nat) : Nat := sumTo (fun i => conO (c i) g j) n
def others (c : Nat → Option Ct) (i n g j : Nat) : Nat := sumTo (fun k => if k = i then 0 else conO (c k) g j) n
variable {A : Ar} {n i : Nat} {c : Nat → Option Ct} {C : Ct} {sl : Nat → Nat} {inn : Nat → Bool}
theorem bF_parts (hi : i < n) (o : Option Ct) (g j : Nat) : bF (upd c i o) n g j = others c i n g j + conO o g j := by
  have h := sum_upd (f := fun k => conO (upd c i o k) g j) (g := fun k => if k = i then 0 else conO (c k) g j) n i hi (fun k hk => by simp only [if_neg hk, upd_ne _ _ hk])
  simp only [if_pos, upd_at] at h
  unfold bF others
  omega
theorem upd_self (c : Nat → Option Ct) (i : Nat) : upd c i (c i) = c := by
  funext k
  by_cases e : k = i
  · subst e; rw [upd_at]
  · rw [upd_ne _ _ e]
theorem bF_split (hi : i < n) (g j : Nat) : bF c n g j = others c i n g j + conO (c i) g j := by
  have := bF_parts (c := c) hi (c i) g j
  rw [upd_self] at this
  exact this
theorem others_le (hn : n ≤ 12) (g j : Nat) : others c i n g j ≤ 1000 := by
  have := sum_le (f := fun k => if k = i then 0 else conO (c k) g j) (k := 1) n (fun k _ => by
    show (if k = i then 0 else conO (c k) g j) ≤ 1
    split
    · omega
    · exact conO_le _ _ _)
  unfold others; omega
/-- What is known of each. -/
structure OneOk (s : Nat) (C : Ct) : Prop where
  slot : C.slot = s
  seg : C.seg = hS (sgN s)
  last : C.last = kN s
  le : C.first ≤ C.last
  more : C.more = 1 ∨ C.more = lessM
def Gd (sl : Nat → Nat) (c : Nat → Option Ct) (n : Nat) : Prop := ∀ i C, i < n → c i = some C → OneOk (sl i) C
/-- in tells who is within. -/
def Cp (inn : Nat → Bool) (c : Nat → Option Ct) (lo n : Nat) : Prop := ∀ i, lo ≤ i → i < n → (c i = none → inn i = false) ∧ ∀ C, c i = some C → (C.more = 1 ∧ inn i = true) ∨ (C.more = lessM ∧ inn i = false)
theorem OneOk.fit {s : Nat} (h : OneOk s C) (hs : s < 255) : C.Fit := by
  obtain ⟨h1, h2, h3, h4, h5⟩ := h
  refine ⟨by rw [h1]; exact hs, by rw [h2]; exact hS_64 (sg_facts hs).1, by rw [h2]; exact hS_ne _, by rw [h1, h3]; exact Nat.le_refl _, h4, ?_⟩
  rcases h5 with e | e
  · rw [e]; unfold W64; omega
  · rw [e]; unfold W64 lessM; omega
theorem OneOk.step {s : Nat} (h : OneOk s C) (A : Ar) : OneOk s (C.step A).2 := by
  unfold Ct.step
  split
  · exact ⟨h.slot, h.seg, h.last, by simp; omega, h.more⟩
  · exact h
theorem gd_upd (h : Gd sl c n) {C : Ct} (hC : OneOk (sl i) C) : Gd sl (upd c i (some C)) n := fun k D hk hd => by
  by_cases e : k = i
  · subst e; rw [upd_at] at hd; cases hd; exact hC
  · rw [upd_ne _ _ e] at hd; exact h k D hk hd
/-- A step. -/
theorem back_step (S : SegA A 4 (fun g j => ((bF c n g j : Nat) : Int))) (G : Gd sl c n) (hn : n ≤ 12) (hi : i < n) (hs : sl i < 15) (hc : c i = some C) :
    SegA (C.step A).1 4 (fun g j => ((bF (upd c i (some (C.step A).2)) n g j : Nat) : Int)) := by
  obtain ⟨h1, h2, h3, h4, h5⟩ := G i C hi hc
  have hg : sgN (sl i) < 4 := (show ∀ s : Fin 15, sgN s.val < 4 by decide +kernel) ⟨sl i, hs⟩
  have e0 : (fun g j => ((bF c n g j : Nat) : Int)) = fun g j => ((others c i n g j + conO (some C) g j : Nat) : Int) := by
    funext g j; rw [bF_split hi, hc]
  rw [e0] at S
  have e1 : ∀ C' : Ct, (fun g j => ((bF (upd c i (some C')) n g j : Nat) : Int)) = fun g j => ((others c i n g j + conO (some C') g j : Nat) : Int) := fun C' => by
    funext g j; rw [bF_parts hi]
  rw [e1]
  have hB := others_le (c := c) (i := i) hn
  by_cases hlt : C.first < C.last
  · have e2 : C.step A = ((A.add C.seg (adN C.slot C.first) C.more).1, { C with first := C.first + 1 }) := by unfold Ct.step; rw [if_pos hlt]
    rw [e2]
    rcases h5 with e | e
    · have f1 : (fun g j => ((others c i n g j + conO (some C) g j : Nat) : Int)) = fun g j => ((others c i n g j + con (sl i) 0 C.first g j : Nat) : Int) := by
        funext g j; unfold conO; dsimp only; rw [if_pos e, h1]
      have f2 : (fun g j => ((others c i n g j + conO (some { C with first := C.first + 1 }) g j : Nat) : Int)) = fun g j => ((others c i n g j + con (sl i) 0 (C.first + 1) g j : Nat) : Int) := by
        funext g j; unfold conO; dsimp only; rw [if_pos e, h1]
      rw [f1] at S
      rw [f2]
      dsimp only
      rw [h2, h1, e]
      exact S.up (by omega) hg (Nat.zero_le _) (by omega) hB
    · have f1 : (fun g j => ((others c i n g j + conO (some C) g j : Nat) : Int)) = fun g j => ((others c i n g j + con (sl i) C.first (kN (sl i)) g j : Nat) : Int) := by
        funext g j; unfold conO; dsimp only; rw [if_neg (by rw [e]; decide), h1]
      have f2 : (fun g j => ((others c i n g j + conO (some { C with first := C.first + 1 }) g j : Nat) : Int)) = fun g j => ((others c i n g j + con (sl i) (C.first + 1) (kN (sl i)) g j : Nat) : Int) := by
        funext g j; unfold conO; dsimp only; rw [if_neg (by rw [e]; decide), h1]
      rw [f1] at S
      rw [f2]
      dsimp only
      rw [h2, h1, e]
      exact S.down (by omega) hg (by omega) (Nat.le_refl _) hB
  · have e2 : C.step A = (A, C) := by unfold Ct.step; rw [if_neg hlt]
    rw [e2]; exact S
def enX (s : Nat) : Ct := ⟨hS (sgN s), s, 0, kN s, 1⟩
def exX (s : Nat) : Ct := ⟨hS (sgN s), s, 0, kN s, lessM⟩
theorem enX_ok (s : Nat) : OneOk s (enX s) := ⟨rfl, rfl, rfl, Nat.zero_le _, .inl rfl⟩
theorem exX_ok (s : Nat) : OneOk s (exX s) := ⟨rfl, rfl, rfl, Nat.zero_le _, .inr rfl⟩
theorem conO_enX (s g j : Nat) : conO (some (enX s)) g j = 0 := by
  unfold conO enX; dsimp only; rw [if_pos rfl]; exact con_none (Nat.le_refl _) _ _
theorem conO_exX (s g j : Nat) : conO (some (exX s)) g j = con s 0 (kN s) g j := by
  unfold conO exX; dsimp only; rw [if_neg (show ¬ lessM = 1 by decide)]
/-- Who is done begins anew: nothing turns. -/
theorem back_anew (S : SegA A 4 (fun g j => ((bF c n g j : Nat) : Int))) (hi : i < n) {o : Option Ct} (h : ∀ g j, conO o g j = conO (c i) g j) : SegA A 4 (fun g j => ((bF (upd c i o) n g j : Nat) : Int)) := by
  have e : (fun g j => ((bF (upd c i o) n g j : Nat) : Int)) = fun g j => ((bF c n g j : Nat) : Int) := by
    funext g j; rw [bF_parts hi, bF_split hi, h]
  rw [e]; exact S
theorem done_in {s : Nat} (h : OneOk s C) (h1 : C.last ≤ C.first) (h2 : C.more = 1) (g j : Nat) : conO (some (exX s)) g j = conO (some C) g j := by
  rw [conO_exX]
  unfold conO; dsimp only
  rw [if_pos h2, h.slot]
  have := h.le
  have := h.last
  rw [show C.first = kN s by omega]
theorem done_out {s : Nat} (h : OneOk s C) (h1 : C.last ≤ C.first) (h2 : C.more = lessM) (g j : Nat) : conO (some C) g j = 0 := by
  unfold conO; dsimp only
  rw [if_neg (by rw [h2]; decide), h.slot]
  have := h.last
  exact con_none (by omega) _ _
theorem cp_enter (h : Cp inn c 0 n) {s : Nat} : Cp (upd inn i true) (upd c i (some (enX s))) 0 n := fun k _ hk => by
  by_cases e : k = i
  · subst e
    rw [upd_at, upd_at]
    exact ⟨fun h => (by cases h), fun D hd => by cases hd; exact .inl ⟨rfl, rfl⟩⟩
  · rw [upd_ne _ _ e, upd_ne _ _ e]; exact h k (Nat.zero_le _) hk
theorem cp_exit (h : Cp inn c 0 n) {s : Nat} : Cp (upd inn i false) (upd c i (some (exX s))) 0 n := fun k _ hk => by
  by_cases e : k = i
  · subst e
    rw [upd_at, upd_at]
    exact ⟨fun h => (by cases h), fun D hd => by cases hd; exact .inr ⟨rfl, rfl⟩⟩
  · rw [upd_ne _ _ e, upd_ne _ _ e]; exact h k (Nat.zero_le _) hk
theorem step_more (C : Ct) (A : Ar) : (C.step A).2.more = C.more := by unfold Ct.step; split <;> rfl
theorem cp_step {lo : Nat} (h : Cp inn c lo n) (hc : c i = some C) (A : Ar) : Cp inn (upd c i (some (C.step A).2)) lo n := fun k hl hk => by
  by_cases e : k = i
  · subst e
    rw [upd_at]
    refine ⟨fun h => (by cases h), fun D hd => ?_⟩
    cases hd
    rw [step_more]
    exact (h k hl hk).2 C hc
  · rw [upd_ne _ _ e]; exact h k hl hk
theorem cp_skip (h : Cp inn c i n) (o : Option Ct) : Cp inn (upd c i o) (i + 1) n := fun k hl hk => by
  rw [upd_ne _ _ (by omega)]; exact h k (by omega) hk
theorem cp_up {lo lo' : Nat} (h : Cp inn c lo n) (hl : lo ≤ lo') : Cp inn c lo' n := fun k hk hn => h k (by omega) hn
/-- Whoever is through: there is none, or it has exited. -/
def Thru (o : Option Ct) : Prop := ∀ C, o = some C → C.more = lessM ∧ C.last ≤ C.first
theorem thru_con {s : Nat} {o : Option Ct} (h : Thru o) (hk : ∀ C, o = some C → OneOk s C) (g j : Nat) : conO o g j = 0 := by
  cases o with
  | none => rfl
  | some C => exact done_out (hk C rfl) (h C rfl).2 (h C rfl).1 g j
theorem all_thru (G : Gd sl c n) (h : ∀ i, i < n → Thru (c i)) (g j : Nat) : bF c n g j = 0 := by
  have := sum_same (f := fun i => conO (c i) g j) (g := fun _ => 0) n (fun i hi => thru_con (h i hi) (fun C hC => G i C hi hC) g j)
  unfold bF
  rw [this]
  have := sum_le (f := fun _ => 0) (k := 0) n (fun _ _ => Nat.le_refl _)
  omega
/-- How far one has come behind y steps. -/
def Far (y : Nat) (o : Option Ct) : Prop := ∀ C, o = some C → y ≤ C.first ∨ C.last ≤ C.first
theorem far_step {y : Nat} (h : Far y (some C)) (A : Ar) : Far (y + 1) (some (C.step A).2) := fun D hd => by
  cases hd
  have := h C rfl
  unfold Ct.step
  split
  · rcases this with e | e
    · left; dsimp only; omega
    · exfalso; omega
  · right; dsimp only; omega
theorem far_end {s y : Nat} (h : Far y (some C)) (hk : OneOk s C) (hs : s < 255) (hy : 9 ≤ y) : C.last ≤ C.first := by
  have := (kN_le hs).2
  have := hk.last
  have := hk.le
  rcases h C rfl with e | e <;> omega
end Cnt
end Go.Proofs.YtpajafecodkndaaGreat

set_option linter.unusedVariables false
set_option linter.unusedSimpArgs false
namespace Go.Proofs.YtpajafecodkndaaGreat
namespace Col
open Arn Clm Cnt

/-- Behind a node, with all that is below it; 0: there is none. -/
def beh : Nat → Nat → Nat
  | 0, _ => 0
  | k + 1, v => if v ≠ 1 ∧ v % 2 = 1 then beh k (v / 2) else if v = 1 then 0 else v + 1
def behN (v : Nat) : Nat := beh 9 v
/-- A collect: ph 0: a segment is to be found, 1: a node is to be looked at, 2: it is done. m segments were read. -/
structure Co where
  ph : Nat
  g : Nat
  node : Nat
  m : Nat
  L : List Nat
def Co.new : Co := ⟨0, 0, 0, 0, []⟩
def Co.go (C : Co) (x : Nat) : Co := if x = 0 then (if C.g + 1 < 8 then { C with ph := 0, g := C.g + 1 } else { C with ph := 2 }) else { C with ph := 1, node := x }
def Co.step (n : Nat) (f : Nat → Nat → Int) (C : Co) : Co :=
  if C.ph = 0 then (if C.g < n then { C with ph := 1, node := 1, m := C.g + 1 } else { C with ph := 2 })
  else if C.ph = 1 then
    if f C.g (5 * 2 ^ C.g + C.node) = 0 then C.go (behN C.node)
    else if C.node < 2 ^ C.g then C.go (2 * C.node)
    else ({ C with L := C.L ++ [C.node - 1] }).go (behN C.node)
  else C
/-- The arena behind its access. -/
def Co.acc (C : Co) (A : Ar) : Ar := if C.ph = 0 then (A.read 0 (1 + C.g)).1 else if C.ph = 1 then (A.read (hS C.g) ((5 * 2 ^ C.g + C.node : Nat) : Int)).1 else A
theorem beh_fin : ∀ g : Fin 8, ∀ v : Fin 256, 1 ≤ v.val → v.val < 2 * 2 ^ g.val → behN v.val < 2 * 2 ^ g.val ∧ (behN v.val = 0 ∨ v.val < behN v.val ∨ 2 ≤ v.val) := by decide +kernel
variable {A : Ar} {n N R : Nat} {f : Nat → Nat → Int} {C : Co} {c : Nat → Option Ct} {sl : Nat → Nat} {inn al so : Nat → Bool}
theorem beh_lt {g v : Nat} (hg : g < 8) (h1 : 1 ≤ v) (h2 : v < 2 * 2 ^ g) : behN v < 2 * 2 ^ g := by
  have hp : 2 ^ g ≤ 2 ^ 7 := Nat.pow_le_pow_right (by omega) (by omega)
  exact (beh_fin ⟨g, hg⟩ ⟨v, by omega⟩ h1 h2).1

/-! ### where it is -/
def lvN (v : Nat) : Nat := Nat.log2 v
def loN (g v : Nat) : Nat := v * 2 ^ (g - lvN v) - 1
def wdN (g v : Nat) : Nat := 2 ^ (g - lvN v)
def rkN : Nat → Nat → Nat → Nat
  | 0, _, _ => 0
  | k + 1, g, v => if v ≤ 1 then 0 else if v % 2 = 0 then rkN k g (v / 2) + 1 else rkN k g (v - 1) + (2 * wdN g v - 1)
def rk (g v : Nat) : Nat := rkN 16 g v
theorem way_fin : ∀ g : Fin 4, ∀ v : Fin 16, 1 ≤ v.val → v.val < 2 * 2 ^ g.val →
    (behN v.val ≠ 0 → rk g.val v.val + 1 ≤ rk g.val (behN v.val) ∧ loN g.val (behN v.val) = loN g.val v.val + wdN g.val v.val) ∧
    (behN v.val = 0 → rk g.val v.val + 2 ≤ 2 * 2 ^ g.val ∧ 2 * 2 ^ g.val - 1 = loN g.val v.val + wdN g.val v.val) ∧
    (v.val < 2 ^ g.val → rk g.val v.val + 1 ≤ rk g.val (2 * v.val) ∧ loN g.val (2 * v.val) = loN g.val v.val) ∧
    (2 ^ g.val ≤ v.val → loN g.val v.val = v.val - 1 ∧ wdN g.val v.val = 1 ∧ sgN (v.val - 1) = g.val ∧ v.val - 1 < 15) := by decide +kernel
theorem one_fin : ∀ g : Fin 4, loN g.val 1 = 2 ^ g.val - 1 ∧ rk g.val 1 = 0 := by decide +kernel
theorem on_fin : ∀ g : Fin 4, ∀ v : Fin 16, ∀ s : Fin 15, 1 ≤ v.val → v.val < 2 * 2 ^ g.val → loN g.val v.val ≤ s.val → s.val < loN g.val v.val + wdN g.val v.val →
    sgN s.val = g.val ∧ (List.range (kN s.val)).any (fun k => ndN s.val k == v.val) = true := by decide +kernel
theorem rk_fin : ∀ g : Fin 4, ∀ v : Fin 16, 1 ≤ v.val → v.val < 2 * 2 ^ g.val → 2 * 2 ^ g.val + rk g.val v.val ≤ 30 := by decide +kernel
theorem leaf_fin : ∀ s : Fin 15, ∀ k : Fin 4, k.val < kN s.val → 2 ^ sgN s.val ≤ ndN s.val k.val → s.val + 1 = ndN s.val k.val := by decide +kernel
theorem way {g v : Nat} (hg : g < 4) (h1 : 1 ≤ v) (h2 : v < 2 * 2 ^ g) :
    (behN v ≠ 0 → rk g v + 1 ≤ rk g (behN v) ∧ loN g (behN v) = loN g v + wdN g v) ∧
    (behN v = 0 → rk g v + 2 ≤ 2 * 2 ^ g ∧ 2 * 2 ^ g - 1 = loN g v + wdN g v) ∧
    (v < 2 ^ g → rk g v + 1 ≤ rk g (2 * v) ∧ loN g (2 * v) = loN g v) ∧
    (2 ^ g ≤ v → loN g v = v - 1 ∧ wdN g v = 1 ∧ sgN (v - 1) = g ∧ v - 1 < 15) := by
  have hp : 2 ^ g ≤ 2 ^ 3 := Nat.pow_le_pow_right (by omega) (by omega)
  exact way_fin ⟨g, hg⟩ ⟨v, by omega⟩ h1 h2
/-- A slot below a node has the node in its path. -/
theorem on_path {g v s : Nat} (hg : g < 4) (h1 : 1 ≤ v) (h2 : v < 2 * 2 ^ g) (hs : s < 15) (h3 : loN g v ≤ s) (h4 : s < loN g v + wdN g v) : con s 0 (kN s) g (5 * 2 ^ g + v) = 1 := by
  have hp : 2 ^ g ≤ 2 ^ 3 := Nat.pow_le_pow_right (by omega) (by omega)
  obtain ⟨e, h⟩ := on_fin ⟨g, hg⟩ ⟨v, by omega⟩ ⟨s, hs⟩ h1 h2 h3 h4
  dsimp only at e h
  obtain ⟨k, hk, hv⟩ := List.any_eq_true.1 h
  refine con_yes e.symm (Nat.zero_le k) (List.mem_range.1 hk) ?_
  unfold adN
  rw [e, beq_iff_eq.1 hv]
/-- Whoever has counted at a slot's own node is of this slot. -/
theorem at_leaf {g v s lo hi : Nat} (hs : s < 15) (hh : hi ≤ kN s) (h2 : 2 ^ g ≤ v) (h : con s lo hi g (5 * 2 ^ g + v) ≠ 0) : s = v - 1 := by
  by_cases e : g = sgN s
  · by_cases hk : ∃ k, lo ≤ k ∧ k < hi ∧ 5 * 2 ^ g + v = adN s k
    · obtain ⟨k, k1, k2, k3⟩ := hk
      have h8 : kN s ≤ 4 := by
        have : ∀ s : Fin 15, kN s.val ≤ 4 := by decide +kernel
        exact this ⟨s, hs⟩
      subst e
      unfold adN at k3
      have := leaf_fin ⟨s, hs⟩ ⟨k, by omega⟩ (by show k < kN s; omega) (by show 2 ^ sgN s ≤ ndN s k; omega)
      dsimp only at this
      omega
    · exact absurd (con_no (fun _ k k1 k2 k3 => hk ⟨k, k1, k2, k3⟩)) h
  · exact absurd (con_no (fun e2 => absurd e2 e)) h
/-- All slots below are behind it. -/
def Co.pos (C : Co) : Nat := if C.ph = 0 then 2 ^ C.g - 1 else if C.ph = 1 then loN C.g C.node else 15
/-- So many reads at most. -/
def Co.rank (C : Co) : Nat := if C.ph = 0 then 2 * 2 ^ C.g - 2 else if C.ph = 1 then 2 * 2 ^ C.g - 1 + rk C.g C.node else 31

theorem pos_0 (h : C.ph = 0) : C.pos = 2 ^ C.g - 1 := by unfold Co.pos; rw [if_pos h]
theorem pos_1 (h : C.ph = 1) : C.pos = loN C.g C.node := by unfold Co.pos; rw [if_neg (by omega), if_pos h]
theorem pos_2 (h : C.ph = 2) : C.pos = 15 := by unfold Co.pos; rw [if_neg (by omega), if_neg (by omega)]
theorem rank_0 (h : C.ph = 0) : C.rank = 2 * 2 ^ C.g - 2 := by unfold Co.rank; rw [if_pos h]
theorem rank_1 (h : C.ph = 1) : C.rank = 2 * 2 ^ C.g - 1 + rk C.g C.node := by unfold Co.rank; rw [if_neg (by omega), if_pos h]
theorem rank_2 (h : C.ph = 2) : C.rank = 31 := by unfold Co.rank; rw [if_neg (by omega), if_neg (by omega)]

/-! ### a step -/
structure Co.Fit (n : Nat) (C : Co) : Prop where
  ph : C.ph ≤ 2
  gn : C.g ≤ n
  m8 : C.m ≤ 8
  find : C.ph = 0 → C.m = C.g
  look : C.ph = 1 → C.g < n ∧ 1 ≤ C.node ∧ C.node < 2 * 2 ^ C.g ∧ C.m = C.g + 1
  few : C.L.length ≤ C.pos
  small : ∀ s, s ∈ C.L → s < 15
theorem fit_new (n : Nat) : Co.new.Fit n := ⟨by decide, Nat.zero_le _, by decide, fun _ => rfl, fun h => (by cases h), by decide, fun s h => (by cases h)⟩
theorem two_pow_succ' (g : Nat) : 2 ^ (g + 1) = 2 * 2 ^ g := by rw [Nat.pow_succ]; omega
theorem pow16 {g : Nat} (h : g ≤ 4) : 1 ≤ 2 ^ g ∧ 2 ^ g ≤ 16 := ⟨Nat.one_le_two_pow, by have : 2 ^ g ≤ 2 ^ 4 := Nat.pow_le_pow_right (by omega) (by omega); omega⟩
/-- On to what is behind a node. -/
theorem go_beh (D : Co) (hg : D.g < 4) (h1 : 1 ≤ D.node) (h2 : D.node < 2 * 2 ^ D.g) :
    (D.go (behN D.node)).L = D.L ∧ (D.go (behN D.node)).m = D.m ∧ (D.go (behN D.node)).pos = loN D.g D.node + wdN D.g D.node ∧ 2 * 2 ^ D.g + rk D.g D.node ≤ (D.go (behN D.node)).rank ∧
      (((D.go (behN D.node)).ph = 0 ∧ (D.go (behN D.node)).g = D.g + 1) ∨ ((D.go (behN D.node)).ph = 1 ∧ (D.go (behN D.node)).g = D.g ∧ 1 ≤ (D.go (behN D.node)).node ∧ (D.go (behN D.node)).node < 2 * 2 ^ D.g)) := by
  obtain ⟨w1, w2, w3, w4⟩ := way hg h1 h2
  have hb := beh_lt (show D.g < 8 by omega) h1 h2
  have hp := pow16 (show D.g ≤ 4 by omega)
  by_cases hz : behN D.node = 0
  · have e : D.go (behN D.node) = { D with ph := 0, g := D.g + 1 } := by unfold Co.go; rw [if_pos hz, if_pos (by omega)]
    rw [e]
    obtain ⟨q1, q2⟩ := w2 hz
    refine ⟨rfl, rfl, ?_, ?_, .inl ⟨rfl, rfl⟩⟩
    · rw [pos_0 rfl]; dsimp only; rw [two_pow_succ']; omega
    · rw [rank_0 rfl]; dsimp only; rw [two_pow_succ']; omega
  · have e : D.go (behN D.node) = { D with ph := 1, node := behN D.node } := by unfold Co.go; rw [if_neg hz]
    rw [e]
    obtain ⟨q1, q2⟩ := w1 hz
    refine ⟨rfl, rfl, ?_, ?_, .inr ⟨rfl, rfl, by dsimp only; omega, hb⟩⟩
    · rw [pos_1 rfl]; exact q2
    · rw [rank_1 rfl]; dsimp only; omega
theorem wd_pos (g v : Nat) : 1 ≤ wdN g v := Nat.one_le_two_pow
/-- What a step makes, in one of five ways. -/
inductive Way (n : Nat) (f : Nat → Nat → Int) (C D : Co) : Prop
  | found (h0 : C.ph = 0) (hg : C.g < n) (e : D = { C with ph := 1, node := 1, m := C.g + 1 }) (hp : D.pos = C.pos) (hr : C.rank + 1 ≤ D.rank)
  | none (h0 : C.ph = 0) (hg : n ≤ C.g) (e : D = { C with ph := 2 }) (hr : C.rank + 1 ≤ D.rank)
  | skip (h0 : C.ph = 1) (hz : f C.g (5 * 2 ^ C.g + C.node) = 0) (e : D = C.go (behN C.node)) (eL : D.L = C.L) (hp : D.pos = loN C.g C.node + wdN C.g C.node) (hc : C.pos = loN C.g C.node) (hr : C.rank + 1 ≤ D.rank)
  | down (h0 : C.ph = 1) (hz : f C.g (5 * 2 ^ C.g + C.node) ≠ 0) (hl : C.node < 2 ^ C.g) (e : D = { C with ph := 1, node := 2 * C.node }) (hp : D.pos = C.pos) (hr : C.rank + 1 ≤ D.rank)
  | take (h0 : C.ph = 1) (hz : f C.g (5 * 2 ^ C.g + C.node) ≠ 0) (hl : 2 ^ C.g ≤ C.node) (e : D = ({ C with L := C.L ++ [C.node - 1] } : Co).go (behN C.node)) (eL : D.L = C.L ++ [C.node - 1]) (hc : C.pos = C.node - 1) (hp : D.pos = C.pos + 1) (hs : sgN (C.node - 1) = C.g) (h15 : C.node - 1 < 15) (hr : C.rank + 1 ≤ D.rank)
theorem step_way (hn : n ≤ 4) (F : C.Fit n) (hph : C.ph ≠ 2) : Way n f C (C.step n f) := by
  have h12 : C.ph = 0 ∨ C.ph = 1 := by have := F.ph; omega
  have hp := pow16 (show C.g ≤ 4 by have := F.gn; omega)
  rcases h12 with h0 | h0
  · by_cases hg : C.g < n
    · have e : C.step n f = { C with ph := 1, node := 1, m := C.g + 1 } := by unfold Co.step; rw [if_pos h0, if_pos hg]
      obtain ⟨o1, o2⟩ := one_fin ⟨C.g, by omega⟩
      dsimp only at o1 o2
      refine .found h0 hg e ?_ ?_
      · rw [e, pos_1 rfl, pos_0 h0]; exact o1
      · rw [rank_0 h0, e, rank_1 rfl]; dsimp only; omega
    · have e : C.step n f = { C with ph := 2 } := by unfold Co.step; rw [if_pos h0, if_neg hg]
      refine .none h0 (by omega) e ?_
      rw [rank_0 h0, e, rank_2 rfl]; omega
  · obtain ⟨l1, l2, l3, l4⟩ := F.look h0
    have n0 : ¬ C.ph = 0 := by omega
    have ec := pos_1 h0
    have er := rank_1 h0
    obtain ⟨w1, w2, w3, w4⟩ := way (show C.g < 4 by omega) l2 l3
    by_cases hz : f C.g (5 * 2 ^ C.g + C.node) = 0
    · have e : C.step n f = C.go (behN C.node) := by unfold Co.step; rw [if_neg n0, if_pos h0, if_pos hz]
      obtain ⟨g1, g2, g3, g4, _⟩ := go_beh C (by omega) l2 l3
      exact .skip h0 hz e (by rw [e]; exact g1) (by rw [e]; exact g3) ec (by rw [e]; omega)
    · by_cases hl : C.node < 2 ^ C.g
      · have e : C.step n f = { C with ph := 1, node := 2 * C.node } := by
          unfold Co.step; rw [if_neg n0, if_pos h0, if_neg hz, if_pos hl]; unfold Co.go; rw [if_neg (by omega)]
        obtain ⟨q1, q2⟩ := w3 hl
        refine .down h0 hz hl e ?_ ?_
        · rw [e, ec, pos_1 rfl]; exact q2
        · rw [er, e, rank_1 rfl]; dsimp only; omega
      · have e : C.step n f = ({ C with L := C.L ++ [C.node - 1] } : Co).go (behN C.node) := by unfold Co.step; rw [if_neg n0, if_pos h0, if_neg hz, if_neg hl]
        obtain ⟨q1, q2, q3, q4⟩ := w4 (by omega)
        obtain ⟨g1, g2, g3, g4, _⟩ := go_beh ({ C with L := C.L ++ [C.node - 1] } : Co) (by dsimp only; omega) l2 l3
        dsimp only at g1 g3 g4
        exact .take h0 hz (by omega) e (by rw [e]; exact g1) (by rw [ec]; exact q1) (by rw [e, ec, g3]; omega) q3 q4 (by rw [e]; omega)
theorem go_kind (D : Co) (hg : D.g < 4) (h1 : 1 ≤ D.node) (h2 : D.node < 2 * 2 ^ D.g) {n : Nat} (hn : D.g < n) (hm : D.m = D.g + 1) (hL : D.L.length ≤ loN D.g D.node + wdN D.g D.node) (hs : ∀ s, s ∈ D.L → s < 15) : (D.go (behN D.node)).Fit n := by
  obtain ⟨g1, g2, g3, g4, g5⟩ := go_beh D hg h1 h2
  rcases g5 with ⟨q1, q2⟩ | ⟨q1, q2, q3, q4⟩
  · exact ⟨by omega, by omega, by omega, fun _ => by omega, fun h => by omega, by rw [g1, g3]; exact hL, by rw [g1]; exact hs⟩
  · exact ⟨by omega, by omega, by omega, fun h => by omega, fun h => ⟨by omega, q3, by rw [q2]; exact q4, by omega⟩, by rw [g1, g3]; exact hL, by rw [g1]; exact hs⟩
theorem fit_step (hn : n ≤ 4) (F : C.Fit n) : (C.step n f).Fit n := by
  by_cases hph : C.ph = 2
  · have e : C.step n f = C := by unfold Co.step; rw [if_neg (by omega), if_neg (by omega)]
    rw [e]; exact F
  have hp := pow16 (show C.g ≤ 4 by have := F.gn; omega)
  rcases step_way (f := f) hn F hph with ⟨h0, hg, e, h1, h2⟩ | ⟨h0, hg, e, h1⟩ | ⟨h0, hz, e, eL, h1, h2, h3⟩ | ⟨h0, hz, hl, e, h1, h2⟩ | ⟨h0, hz, hl, e, eL, h1, h2, h3, h4, h5⟩
  · have hf := F.few
    rw [← h1] at hf
    rw [e] at hf ⊢
    exact ⟨by dsimp only; omega, F.gn, by dsimp only; omega, fun h => (by cases h), fun _ => ⟨hg, by dsimp only; omega, by dsimp only; omega, rfl⟩, hf, F.small⟩
  · have hf := F.few
    rw [e]
    refine ⟨by dsimp only; omega, F.gn, F.m8, fun h => (by cases h), fun h => (by cases h), ?_, F.small⟩
    rw [pos_2 rfl]
    have e2 := pos_0 h0
    show C.L.length ≤ 15
    omega
  · obtain ⟨l1, l2, l3, l4⟩ := F.look h0
    rw [e]
    exact go_kind C (by omega) l2 l3 l1 l4 (by have := F.few; omega) F.small
  · obtain ⟨l1, l2, l3, l4⟩ := F.look h0
    have hf := F.few
    rw [← h1] at hf
    rw [e] at hf ⊢
    exact ⟨by dsimp only; omega, F.gn, F.m8, fun h => (by cases h), fun _ => ⟨l1, by dsimp only; omega, by dsimp only; omega, l4⟩, hf, F.small⟩
  · obtain ⟨l1, l2, l3, l4⟩ := F.look h0
    have hw := wd_pos C.g C.node
    have hc := F.few
    have h1' := pos_1 h0
    rw [e]
    refine go_kind ({ C with L := C.L ++ [C.node - 1] } : Co) (by dsimp only; omega) l2 l3 l1 l4 ?_ ?_
    · show (C.L ++ [C.node - 1]).length ≤ _
      rw [List.length_append, List.length_singleton]
      dsimp only; omega
    · intro s hs
      rcases List.mem_append.1 hs with h | h
      · exact F.small s h
      · rw [List.mem_singleton.1 h]; exact h4
/-- The arena behind a step. -/
theorem acc_seg (hn : n ≤ 4) (F : C.Fit n) (S : SegA A n f) : SegA (C.acc A) n f ∧ (C.acc A).t.reads = A.t.reads + (if C.ph = 2 then 0 else 1) ∧ (C.acc A).cap = A.cap := by
  have hp := pow16 (show C.g ≤ 4 by have := F.gn; omega)
  have hph := F.ph
  unfold Co.acc
  by_cases h0 : C.ph = 0
  · rw [if_pos h0, if_neg (by omega)]
    obtain ⟨e1, e2⟩ := S.fixed (show C.g < 8 by have := F.gn; omega)
    unfold Ar.read
    rw [if_pos e1]
    exact ⟨S.tally _, rfl, rfl⟩
  · by_cases h1 : C.ph = 1
    · obtain ⟨l1, l2, l3, l4⟩ := F.look h1
      rw [if_neg h0, if_pos h1, if_neg (by omega)]
      obtain ⟨e1, e2⟩ := S.at_ (j := 5 * 2 ^ C.g + C.node) l1 (by omega)
      unfold Ar.read
      rw [if_pos e1]
      exact ⟨S.tally _, rfl, rfl⟩
    · rw [if_neg h0, if_neg h1, if_pos (by omega)]
      exact ⟨S, rfl, rfl⟩
end Col
end Go.Proofs.YtpajafecodkndaaGreat
