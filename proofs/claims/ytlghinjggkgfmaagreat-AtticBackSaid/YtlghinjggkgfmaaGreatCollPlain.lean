/- Collects, plainly: a collect as a state upon segments whose words are a function. No program is spoken of here. -/
import Derived.Test.YtlghinjggkgfmaaGreatCountBackPlain
set_option linter.unusedVariables false
set_option linter.unusedSimpArgs false
namespace Go.Proofs.YtlghinjggkgfmaaGreat
namespace Col
open Arn Clm Cnt

/-- Behind a node, with all that is below it; 0: there is none. -/
def beh : Nat → Nat → Nat
  | 0, _ => 0
  | k + 1, v => if v ≠ 1 ∧ v % 2 = 1 then beh k (v / 2) else if v = 1 then 0 else v + 1
def behN (v : Nat) : Nat := beh 9 v
/-- A collect: ph 0: a segment is to be found, 1: a node is to be looked at, 2: it is done. m segments were read. -/
structure Co where
  ph : Nat
  g : Nat
  node : Nat
  m : Nat
  L : List Nat
def Co.new : Co := ⟨0, 0, 0, 0, []⟩
def Co.go (C : Co) (x : Nat) : Co := if x = 0 then (if C.g + 1 < 8 then { C with ph := 0, g := C.g + 1 } else { C with ph := 2 }) else { C with ph := 1, node := x }
def Co.step (n : Nat) (f : Nat → Nat → Int) (C : Co) : Co :=
  if C.ph = 0 then (if C.g < n then { C with ph := 1, node := 1, m := C.g + 1 } else { C with ph := 2 })
  else if C.ph = 1 then
    if f C.g (5 * 2 ^ C.g + C.node) = 0 then C.go (behN C.node)
    else if C.node < 2 ^ C.g then C.go (2 * C.node)
    else ({ C with L := C.L ++ [C.node - 1] }).go (behN C.node)
  else C
/-- The arena behind its access. -/
def Co.acc (C : Co) (A : Ar) : Ar := if C.ph = 0 then (A.read 0 (1 + C.g)).1 else if C.ph = 1 then (A.read (hS C.g) ((5 * 2 ^ C.g + C.node : Nat) : Int)).1 else A
theorem beh_fin : ∀ g : Fin 8, ∀ v : Fin 256, 1 ≤ v.val → v.val < 2 * 2 ^ g.val → behN v.val < 2 * 2 ^ g.val ∧ (behN v.val = 0 ∨ v.val < behN v.val ∨ 2 ≤ v.val) := by decide +kernel
variable {A : Ar} {n N R : Nat} {f : Nat → Nat → Int} {C : Co} {c : Nat → Option Ct} {sl : Nat → Nat} {inn al so : Nat → Bool}
theorem beh_lt {g v : Nat} (hg : g < 8) (h1 : 1 ≤ v) (h2 : v < 2 * 2 ^ g) : behN v < 2 * 2 ^ g := by
  have hp : 2 ^ g ≤ 2 ^ 7 := Nat.pow_le_pow_right (by omega) (by omega)
  exact (beh_fin ⟨g, hg⟩ ⟨v, by omega⟩ h1 h2).1

/-! ### where it is -/
def lvN (v : Nat) : Nat := Nat.log2 v
def loN (g v : Nat) : Nat := v * 2 ^ (g - lvN v) - 1
def wdN (g v : Nat) : Nat := 2 ^ (g - lvN v)
def rkN : Nat → Nat → Nat → Nat
  | 0, _, _ => 0
  | k + 1, g, v => if v ≤ 1 then 0 else if v % 2 = 0 then rkN k g (v / 2) + 1 else rkN k g (v - 1) + (2 * wdN g v - 1)
def rk (g v : Nat) : Nat := rkN 16 g v
theorem way_fin : ∀ g : Fin 4, ∀ v : Fin 16, 1 ≤ v.val → v.val < 2 * 2 ^ g.val →
    (behN v.val ≠ 0 → rk g.val v.val + 1 ≤ rk g.val (behN v.val) ∧ loN g.val (behN v.val) = loN g.val v.val + wdN g.val v.val) ∧
    (behN v.val = 0 → rk g.val v.val + 2 ≤ 2 * 2 ^ g.val ∧ 2 * 2 ^ g.val - 1 = loN g.val v.val + wdN g.val v.val) ∧
    (v.val < 2 ^ g.val → rk g.val v.val + 1 ≤ rk g.val (2 * v.val) ∧ loN g.val (2 * v.val) = loN g.val v.val) ∧
    (2 ^ g.val ≤ v.val → loN g.val v.val = v.val - 1 ∧ wdN g.val v.val = 1 ∧ sgN (v.val - 1) = g.val ∧ v.val - 1 < 15) := by decide +kernel
theorem one_fin : ∀ g : Fin 4, loN g.val 1 = 2 ^ g.val - 1 ∧ rk g.val 1 = 0 := by decide +kernel
theorem on_fin : ∀ g : Fin 4, ∀ v : Fin 16, ∀ s : Fin 15, 1 ≤ v.val → v.val < 2 * 2 ^ g.val → loN g.val v.val ≤ s.val → s.val < loN g.val v.val + wdN g.val v.val →
    sgN s.val = g.val ∧ (List.range (kN s.val)).any (fun k => ndN s.val k == v.val) = true := by decide +kernel
theorem rk_fin : ∀ g : Fin 4, ∀ v : Fin 16, 1 ≤ v.val → v.val < 2 * 2 ^ g.val → 2 * 2 ^ g.val + rk g.val v.val ≤ 30 := by decide +kernel
theorem leaf_fin : ∀ s : Fin 15, ∀ k : Fin 4, k.val < kN s.val → 2 ^ sgN s.val ≤ ndN s.val k.val → s.val + 1 = ndN s.val k.val := by decide +kernel
theorem way {g v : Nat} (hg : g < 4) (h1 : 1 ≤ v) (h2 : v < 2 * 2 ^ g) :
    (behN v ≠ 0 → rk g v + 1 ≤ rk g (behN v) ∧ loN g (behN v) = loN g v + wdN g v) ∧
    (behN v = 0 → rk g v + 2 ≤ 2 * 2 ^ g ∧ 2 * 2 ^ g - 1 = loN g v + wdN g v) ∧
    (v < 2 ^ g → rk g v + 1 ≤ rk g (2 * v) ∧ loN g (2 * v) = loN g v) ∧
    (2 ^ g ≤ v → loN g v = v - 1 ∧ wdN g v = 1 ∧ sgN (v - 1) = g ∧ v - 1 < 15) := by
  have hp : 2 ^ g ≤ 2 ^ 3 := Nat.pow_le_pow_right (by omega) (by omega)
  exact way_fin ⟨g, hg⟩ ⟨v, by omega⟩ h1 h2
/-- A slot below a node has the node in its path. -/
theorem on_path {g v s : Nat} (hg : g < 4) (h1 : 1 ≤ v) (h2 : v < 2 * 2 ^ g) (hs : s < 15) (h3 : loN g v ≤ s) (h4 : s < loN g v + wdN g v) : con s 0 (kN s) g (5 * 2 ^ g + v) = 1 := by
  have hp : 2 ^ g ≤ 2 ^ 3 := Nat.pow_le_pow_right (by omega) (by omega)
  obtain ⟨e, h⟩ := on_fin ⟨g, hg⟩ ⟨v, by omega⟩ ⟨s, hs⟩ h1 h2 h3 h4
  dsimp only at e h
  obtain ⟨k, hk, hv⟩ := List.any_eq_true.1 h
  refine con_yes e.symm (Nat.zero_le k) (List.mem_range.1 hk) ?_
  unfold adN
  rw [e, beq_iff_eq.1 hv]
/-- Whoever has counted at a slot's own node is of this slot. -/
theorem at_leaf {g v s lo hi : Nat} (hs : s < 15) (hh : hi ≤ kN s) (h2 : 2 ^ g ≤ v) (h : con s lo hi g (5 * 2 ^ g + v) ≠ 0) : s = v - 1 := by
  by_cases e : g = sgN s
  · by_cases hk : ∃ k, lo ≤ k ∧ k < hi ∧ 5 * 2 ^ g + v = adN s k
    · obtain ⟨k, k1, k2, k3⟩ := hk
      have h8 : kN s ≤ 4 := by
        have : ∀ s : Fin 15, kN s.val ≤ 4 := by decide +kernel
        exact this ⟨s, hs⟩
      subst e
      unfold adN at k3
      have := leaf_fin ⟨s, hs⟩ ⟨k, by omega⟩ (by show k < kN s; omega) (by show 2 ^ sgN s ≤ ndN s k; omega)
      dsimp only at this
      omega
    · exact absurd (con_no (fun _ k k1 k2 k3 => hk ⟨k, k1, k2, k3⟩)) h
  · exact absurd (con_no (fun e2 => absurd e2 e)) h
/-- All slots below are behind it. -/
def Co.pos (C : Co) : Nat := if C.ph = 0 then 2 ^ C.g - 1 else if C.ph = 1 then loN C.g C.node else 15
/-- So many reads at most. -/
def Co.rank (C : Co) : Nat := if C.ph = 0 then 2 * 2 ^ C.g - 2 else if C.ph = 1 then 2 * 2 ^ C.g - 1 + rk C.g C.node else 31

theorem pos_0 (h : C.ph = 0) : C.pos = 2 ^ C.g - 1 := by unfold Co.pos; rw [if_pos h]
theorem pos_1 (h : C.ph = 1) : C.pos = loN C.g C.node := by unfold Co.pos; rw [if_neg (by omega), if_pos h]
theorem pos_2 (h : C.ph = 2) : C.pos = 15 := by unfold Co.pos; rw [if_neg (by omega), if_neg (by omega)]
theorem rank_0 (h : C.ph = 0) : C.rank = 2 * 2 ^ C.g - 2 := by unfold Co.rank; rw [if_pos h]
theorem rank_1 (h : C.ph = 1) : C.rank = 2 * 2 ^ C.g - 1 + rk C.g C.node := by unfold Co.rank; rw [if_neg (by omega), if_pos h]
theorem rank_2 (h : C.ph = 2) : C.rank = 31 := by unfold Co.rank; rw [if_neg (by omega), if_neg (by omega)]

/-! ### a step -/
structure Co.Fit (n : Nat) (C : Co) : Prop where
  ph : C.ph ≤ 2
  gn : C.g ≤ n
  m8 : C.m ≤ 8
  find : C.ph = 0 → C.m = C.g
  look : C.ph = 1 → C.g < n ∧ 1 ≤ C.node ∧ C.node < 2 * 2 ^ C.g ∧ C.m = C.g + 1
  few : C.L.length ≤ C.pos
  small : ∀ s, s ∈ C.L → s < 15
theorem fit_new (n : Nat) : Co.new.Fit n := ⟨by decide, Nat.zero_le _, by decide, fun _ => rfl, fun h => (by cases h), by decide, fun s h => (by cases h)⟩
theorem two_pow_succ' (g : Nat) : 2 ^ (g + 1) = 2 * 2 ^ g := by rw [Nat.pow_succ]; omega
theorem pow16 {g : Nat} (h : g ≤ 4) : 1 ≤ 2 ^ g ∧ 2 ^ g ≤ 16 := ⟨Nat.one_le_two_pow, by have : 2 ^ g ≤ 2 ^ 4 := Nat.pow_le_pow_right (by omega) (by omega); omega⟩
/-- On to what is behind a node. -/
theorem go_beh (D : Co) (hg : D.g < 4) (h1 : 1 ≤ D.node) (h2 : D.node < 2 * 2 ^ D.g) :
    (D.go (behN D.node)).L = D.L ∧ (D.go (behN D.node)).m = D.m ∧ (D.go (behN D.node)).pos = loN D.g D.node + wdN D.g D.node ∧ 2 * 2 ^ D.g + rk D.g D.node ≤ (D.go (behN D.node)).rank ∧
      (((D.go (behN D.node)).ph = 0 ∧ (D.go (behN D.node)).g = D.g + 1) ∨ ((D.go (behN D.node)).ph = 1 ∧ (D.go (behN D.node)).g = D.g ∧ 1 ≤ (D.go (behN D.node)).node ∧ (D.go (behN D.node)).node < 2 * 2 ^ D.g)) := by
  obtain ⟨w1, w2, w3, w4⟩ := way hg h1 h2
  have hb := beh_lt (show D.g < 8 by omega) h1 h2
  have hp := pow16 (show D.g ≤ 4 by omega)
  by_cases hz : behN D.node = 0
  · have e : D.go (behN D.node) = { D with ph := 0, g := D.g + 1 } := by unfold Co.go; rw [if_pos hz, if_pos (by omega)]
    rw [e]
    obtain ⟨q1, q2⟩ := w2 hz
    refine ⟨rfl, rfl, ?_, ?_, .inl ⟨rfl, rfl⟩⟩
    · rw [pos_0 rfl]; dsimp only; rw [two_pow_succ']; omega
    · rw [rank_0 rfl]; dsimp only; rw [two_pow_succ']; omega
  · have e : D.go (behN D.node) = { D with ph := 1, node := behN D.node } := by unfold Co.go; rw [if_neg hz]
    rw [e]
    obtain ⟨q1, q2⟩ := w1 hz
    refine ⟨rfl, rfl, ?_, ?_, .inr ⟨rfl, rfl, by dsimp only; omega, hb⟩⟩
    · rw [pos_1 rfl]; exact q2
    · rw [rank_1 rfl]; dsimp only; omega
theorem wd_pos (g v : Nat) : 1 ≤ wdN g v := Nat.one_le_two_pow
/-- What a step makes, in one of five ways. -/
inductive Way (n : Nat) (f : Nat → Nat → Int) (C D : Co) : Prop
  | found (h0 : C.ph = 0) (hg : C.g < n) (e : D = { C with ph := 1, node := 1, m := C.g + 1 }) (hp : D.pos = C.pos) (hr : C.rank + 1 ≤ D.rank)
  | none (h0 : C.ph = 0) (hg : n ≤ C.g) (e : D = { C with ph := 2 }) (hr : C.rank + 1 ≤ D.rank)
  | skip (h0 : C.ph = 1) (hz : f C.g (5 * 2 ^ C.g + C.node) = 0) (e : D = C.go (behN C.node)) (eL : D.L = C.L) (hp : D.pos = loN C.g C.node + wdN C.g C.node) (hc : C.pos = loN C.g C.node) (hr : C.rank + 1 ≤ D.rank)
  | down (h0 : C.ph = 1) (hz : f C.g (5 * 2 ^ C.g + C.node) ≠ 0) (hl : C.node < 2 ^ C.g) (e : D = { C with ph := 1, node := 2 * C.node }) (hp : D.pos = C.pos) (hr : C.rank + 1 ≤ D.rank)
  | take (h0 : C.ph = 1) (hz : f C.g (5 * 2 ^ C.g + C.node) ≠ 0) (hl : 2 ^ C.g ≤ C.node) (e : D = ({ C with L := C.L ++ [C.node - 1] } : Co).go (behN C.node)) (eL : D.L = C.L ++ [C.node - 1]) (hc : C.pos = C.node - 1) (hp : D.pos = C.pos + 1) (hs : sgN (C.node - 1) = C.g) (h15 : C.node - 1 < 15) (hr : C.rank + 1 ≤ D.rank)
theorem step_way (hn : n ≤ 4) (F : C.Fit n) (hph : C.ph ≠ 2) : Way n f C (C.step n f) := by
  have h12 : C.ph = 0 ∨ C.ph = 1 := by have := F.ph; omega
  have hp := pow16 (show C.g ≤ 4 by have := F.gn; omega)
  rcases h12 with h0 | h0
  · by_cases hg : C.g < n
    · have e : C.step n f = { C with ph := 1, node := 1, m := C.g + 1 } := by unfold Co.step; rw [if_pos h0, if_pos hg]
      obtain ⟨o1, o2⟩ := one_fin ⟨C.g, by omega⟩
      dsimp only at o1 o2
      refine .found h0 hg e ?_ ?_
      · rw [e, pos_1 rfl, pos_0 h0]; exact o1
      · rw [rank_0 h0, e, rank_1 rfl]; dsimp only; omega
    · have e : C.step n f = { C with ph := 2 } := by unfold Co.step; rw [if_pos h0, if_neg hg]
      refine .none h0 (by omega) e ?_
      rw [rank_0 h0, e, rank_2 rfl]; omega
  · obtain ⟨l1, l2, l3, l4⟩ := F.look h0
    have n0 : ¬ C.ph = 0 := by omega
    have ec := pos_1 h0
    have er := rank_1 h0
    obtain ⟨w1, w2, w3, w4⟩ := way (show C.g < 4 by omega) l2 l3
    by_cases hz : f C.g (5 * 2 ^ C.g + C.node) = 0
    · have e : C.step n f = C.go (behN C.node) := by unfold Co.step; rw [if_neg n0, if_pos h0, if_pos hz]
      obtain ⟨g1, g2, g3, g4, _⟩ := go_beh C (by omega) l2 l3
      exact .skip h0 hz e (by rw [e]; exact g1) (by rw [e]; exact g3) ec (by rw [e]; omega)
    · by_cases hl : C.node < 2 ^ C.g
      · have e : C.step n f = { C with ph := 1, node := 2 * C.node } := by
          unfold Co.step; rw [if_neg n0, if_pos h0, if_neg hz, if_pos hl]; unfold Co.go; rw [if_neg (by omega)]
        obtain ⟨q1, q2⟩ := w3 hl
        refine .down h0 hz hl e ?_ ?_
        · rw [e, ec, pos_1 rfl]; exact q2
        · rw [er, e, rank_1 rfl]; dsimp only; omega
      · have e : C.step n f = ({ C with L := C.L ++ [C.node - 1] } : Co).go (behN C.node) := by unfold Co.step; rw [if_neg n0, if_pos h0, if_neg hz, if_neg hl]
        obtain ⟨q1, q2, q3, q4⟩ := w4 (by omega)
        obtain ⟨g1, g2, g3, g4, _⟩ := go_beh ({ C with L := C.L ++ [C.node - 1] } : Co) (by dsimp only; omega) l2 l3
        dsimp only at g1 g3 g4
        exact .take h0 hz (by omega) e (by rw [e]; exact g1) (by rw [ec]; exact q1) (by rw [e, ec, g3]; omega) q3 q4 (by rw [e]; omega)
theorem go_kind (D : Co) (hg : D.g < 4) (h1 : 1 ≤ D.node) (h2 : D.node < 2 * 2 ^ D.g) {n : Nat} (hn : D.g < n) (hm : D.m = D.g + 1) (hL : D.L.length ≤ loN D.g D.node + wdN D.g D.node) (hs : ∀ s, s ∈ D.L → s < 15) : (D.go (behN D.node)).Fit n := by
  obtain ⟨g1, g2, g3, g4, g5⟩ := go_beh D hg h1 h2
  rcases g5 with ⟨q1, q2⟩ | ⟨q1, q2, q3, q4⟩
  · exact ⟨by omega, by omega, by omega, fun _ => by omega, fun h => by omega, by rw [g1, g3]; exact hL, by rw [g1]; exact hs⟩
  · exact ⟨by omega, by omega, by omega, fun h => by omega, fun h => ⟨by omega, q3, by rw [q2]; exact q4, by omega⟩, by rw [g1, g3]; exact hL, by rw [g1]; exact hs⟩
theorem fit_step (hn : n ≤ 4) (F : C.Fit n) : (C.step n f).Fit n := by
  by_cases hph : C.ph = 2
  · have e : C.step n f = C := by unfold Co.step; rw [if_neg (by omega), if_neg (by omega)]
    rw [e]; exact F
  have hp := pow16 (show C.g ≤ 4 by have := F.gn; omega)
  rcases step_way (f := f) hn F hph with ⟨h0, hg, e, h1, h2⟩ | ⟨h0, hg, e, h1⟩ | ⟨h0, hz, e, eL, h1, h2, h3⟩ | ⟨h0, hz, hl, e, h1, h2⟩ | ⟨h0, hz, hl, e, eL, h1, h2, h3, h4, h5⟩
  · have hf := F.few
    rw [← h1] at hf
    rw [e] at hf ⊢
    exact ⟨by dsimp only; omega, F.gn, by dsimp only; omega, fun h => (by cases h), fun _ => ⟨hg, by dsimp only; omega, by dsimp only; omega, rfl⟩, hf, F.small⟩
  · have hf := F.few
    rw [e]
    refine ⟨by dsimp only; omega, F.gn, F.m8, fun h => (by cases h), fun h => (by cases h), ?_, F.small⟩
    rw [pos_2 rfl]
    have e2 := pos_0 h0
    show C.L.length ≤ 15
    omega
  · obtain ⟨l1, l2, l3, l4⟩ := F.look h0
    rw [e]
    exact go_kind C (by omega) l2 l3 l1 l4 (by have := F.few; omega) F.small
  · obtain ⟨l1, l2, l3, l4⟩ := F.look h0
    have hf := F.few
    rw [← h1] at hf
    rw [e] at hf ⊢
    exact ⟨by dsimp only; omega, F.gn, F.m8, fun h => (by cases h), fun _ => ⟨l1, by dsimp only; omega, by dsimp only; omega, l4⟩, hf, F.small⟩
  · obtain ⟨l1, l2, l3, l4⟩ := F.look h0
    have hw := wd_pos C.g C.node
    have hc := F.few
    have h1' := pos_1 h0
    rw [e]
    refine go_kind ({ C with L := C.L ++ [C.node - 1] } : Co) (by dsimp only; omega) l2 l3 l1 l4 ?_ ?_
    · show (C.L ++ [C.node - 1]).length ≤ _
      rw [List.length_append, List.length_singleton]
      dsimp only; omega
    · intro s hs
      rcases List.mem_append.1 hs with h | h
      · exact F.small s h
      · rw [List.mem_singleton.1 h]; exact h4
/-- The arena behind a step. -/
theorem acc_seg (hn : n ≤ 4) (F : C.Fit n) (S : SegA A n f) : SegA (C.acc A) n f ∧ (C.acc A).t.reads = A.t.reads + (if C.ph = 2 then 0 else 1) ∧ (C.acc A).cap = A.cap := by
  have hp := pow16 (show C.g ≤ 4 by have := F.gn; omega)
  have hph := F.ph
  unfold Co.acc
  by_cases h0 : C.ph = 0
  · rw [if_pos h0, if_neg (by omega)]
    obtain ⟨e1, e2⟩ := S.fixed (show C.g < 8 by have := F.gn; omega)
    unfold Ar.read
    rw [if_pos e1]
    exact ⟨S.tally _, rfl, rfl⟩
  · by_cases h1 : C.ph = 1
    · obtain ⟨l1, l2, l3, l4⟩ := F.look h1
      rw [if_neg h0, if_pos h1, if_neg (by omega)]
      obtain ⟨e1, e2⟩ := S.at_ (j := 5 * 2 ^ C.g + C.node) l1 (by omega)
      unfold Ar.read
      rw [if_pos e1]
      exact ⟨S.tally _, rfl, rfl⟩
    · rw [if_neg h0, if_neg h1, if_pos (by omega)]
      exact ⟨S, rfl, rfl⟩
end Col
end Go.Proofs.YtlghinjggkgfmaaGreat
