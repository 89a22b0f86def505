/- Collects, plainly: a collect as a state upon segments whose words are a function. No program is spoken of here. -/
/- Who is found, plainly: a collect beside those that enter and exit; a collect when nothing turns. No program is spoken of here. -/
import Derived.Test.YtfbnidjcimcfoaaGreatCountBackPlain
set_option linter.unusedVariables false
set_option linter.unusedSimpArgs false
namespace Go.Proofs.YtfbnidjcimcfoaaGreat
namespace Col
open Arn Clm Cnt

/-- Behind a node, with all that is below it; 0: there is none. -/
def beh : Nat → Nat → Nat
  | 0, _ => 0
  | k + 1, v => if v ≠ 1 ∧ v % 2 = 1 then beh k (v / 2) else if v = 1 then 0 else v + 1
def behN (v : Nat) : Nat := beh 9 v
/-- A collect: ph 0: a segment is to be found, 1: a node is to be looked at, 2: it is done. m segments were read. -/
structure Co where
  ph : Nat
  g : Nat
  node : Nat
  m : Nat
  L : List Nat
def Co.new : Co := ⟨0, 0, 0, 0, []⟩
def Co.go (C : Co) (x : Nat) : Co := if x = 0 then (if C.g + 1 < 8 then { C with ph := 0, g := C.g + 1 } else { C with ph := 2 }) else { C with ph := 1, node := x }
def Co.step (n : Nat) (f : Nat → Nat → Int) (C : Co) : Co :=
  if C.ph = 0 then (if C.g < n then { C with ph := 1, node := 1, m := C.g + 1 } else { C with ph := 2 })
  else if C.ph = 1 then
    if f C.g (5 * 2 ^ C.g + C.node) = 0 then C.go (behN C.node)
    else if C.node < 2 ^ C.g then C.go (2 * C.node)
    else ({ C with L := C.L ++ [C.node - 1] }).go (behN C.node)
  else C
/-- The arena behind its access. -/
def Co.acc (C : Co) (A : Ar) : Ar := if C.ph = 0 then (A.read 0 (1 + C.g)).1 else if C.ph = 1 then (A.read (hS C.g) ((5 * 2 ^ C.g + C.node : Nat) : Int)).1 else A
theorem beh_fin : ∀ g : Fin 8, ∀ v : Fin 256, 1 ≤ v.val → v.val < 2 * 2 ^ g.val → behN v.val < 2 * 2 ^ g.val ∧ (behN v.val = 0 ∨ v.val < behN v.val ∨ 2 ≤ v.val) := by decide +kernel
variable {A : Ar} {n N R : Nat} {f : Nat → Nat → Int} {C : Co} {c : Nat → Option Ct} {sl : Nat → Nat} {inn al so : Nat → Bool}
theorem beh_lt {g v : Nat} (hg : g < 8) (h1 : 1 ≤ v) (h2 : v < 2 * 2 ^ g) : behN v < 2 * 2 ^ g := by
  have hp : 2 ^ g ≤ 2 ^ 7 := Nat.pow_le_pow_right (by omega) (by omega)
  exact (beh_fin ⟨g, hg⟩ ⟨v, by omega⟩ h1 h2).1

/-! ### where it is -/
def lvN (v : Nat) : Nat := Nat.log2 v
def loN (g v : Nat) : Nat := v * 2 ^ (g - lvN v) - 1
def wdN (g v : Nat) : Nat := 2 ^ (g - lvN v)
def rkN : Nat → Nat → Nat → Nat
  | 0, _, _ => 0
  | k + 1, g, v => if v ≤ 1 then 0 else if v % 2 = 0 then rkN k g (v / 2) + 1 else rkN k g (v - 1) + (2 * wdN g v - 1)
def rk (g v : Nat) : Nat := rkN 16 g v
theorem way_fin : ∀ g : Fin 4, ∀ v : Fin 16, 1 ≤ v.val → v.val < 2 * 2 ^ g.val →
    (behN v.val ≠ 0 → rk g.val v.val + 1 ≤ rk g.val (behN v.val) ∧ loN g.val (behN v.val) = loN g.val v.val + wdN g.val v.val) ∧
    (behN v.val = 0 → rk g.val v.val + 2 ≤ 2 * 2 ^ g.val ∧ 2 * 2 ^ g.val - 1 = loN g.val v.val + wdN g.val v.val) ∧
    (v.val < 2 ^ g.val → rk g.val v.val + 1 ≤ rk g.val (2 * v.val) ∧ loN g.val (2 * v.val) = loN g.val v.val) ∧
    (2 ^ g.val ≤ v.val → loN g.val v.val = v.val - 1 ∧ wdN g.val v.val = 1 ∧ sgN (v.val - 1) = g.val ∧ v.val - 1 < 15) := by decide +kernel
theorem one_fin : ∀ g : Fin 4, loN g.val 1 = 2 ^ g.val - 1 ∧ rk g.val 1 = 0 := by decide +kernel
theorem on_fin : ∀ g : Fin 4, ∀ v : Fin 16, ∀ s : Fin 15, 1 ≤ v.val → v.val < 2 * 2 ^ g.val → loN g.val v.val ≤ s.val → s.val < loN g.val v.val + wdN g.val v.val →
    sgN s.val = g.val ∧ (List.range (kN s.val)).any (fun k => ndN s.val k == v.val) = true := by decide +kernel
theorem rk_fin : ∀ g : Fin 4, ∀ v : Fin 16, 1 ≤ v.val → v.val < 2 * 2 ^ g.val → 2 * 2 ^ g.val + rk g.val v.val ≤ 30 := by decide +kernel
theorem leaf_fin : ∀ s : Fin 15, ∀ k : Fin 4, k.val < kN s.val → 2 ^ sgN s.val ≤ ndN s.val k.val → s.val + 1 = ndN s.val k.val := by decide +kernel
theorem way {g v : Nat} (hg : g < 4) (h1 : 1 ≤ v) (h2 : v < 2 * 2 ^ g) :
    (behN v ≠ 0 → rk g v + 1 ≤ rk g (behN v) ∧ loN g (behN v) = loN g v + wdN g v) ∧
    (behN v = 0 → rk g v + 2 ≤ 2 * 2 ^ g ∧ 2 * 2 ^ g - 1 = loN g v + wdN g v) ∧
    (v < 2 ^ g → rk g v + 1 ≤ rk g (2 * v) ∧ loN g (2 * v) = loN g v) ∧
    (2 ^ g ≤ v → loN g v = v - 1 ∧ wdN g v = 1 ∧ sgN (v - 1) = g ∧ v - 1 < 15) := by
  have hp : 2 ^ g ≤ 2 ^ 3 := Nat.pow_le_pow_right (by omega) (by omega)
  exact way_fin ⟨g, hg⟩ ⟨v, by omega⟩ h1 h2
/-- A slot below a node has the node in its path. -/
theorem on_path {g v s : Nat} (hg : g < 4) (h1 : 1 ≤ v) (h2 : v < 2 * 2 ^ g) (hs : s < 15) (h3 : loN g v ≤ s) (h4 : s < loN g v + wdN g v) : con s 0 (kN s) g (5 * 2 ^ g + v) = 1 := by
  have hp : 2 ^ g ≤ 2 ^ 3 := Nat.pow_le_pow_right (by omega) (by omega)
  obtain ⟨e, h⟩ := on_fin ⟨g, hg⟩ ⟨v, by omega⟩ ⟨s, hs⟩ h1 h2 h3 h4
  dsimp only at e h
  obtain ⟨k, hk, hv⟩ := List.any_eq_true.1 h
  refine con_yes e.symm (Nat.zero_le k) (List.mem_range.1 hk) ?_
  unfold adN
  rw [e, beq_iff_eq.1 hv]
/-- Whoever has counted at a slot's own node is of this slot. -/
theorem at_leaf {g v s lo hi : Nat} (hs : s < 15) (hh : hi ≤ kN s) (h2 : 2 ^ g ≤ v) (h : con s lo hi g (5 * 2 ^ g + v) ≠ 0) : s = v - 1 := by
  by_cases e : g = sgN s
  · by_cases hk : ∃ k, lo ≤ k ∧ k < hi ∧ 5 * 2 ^ g + v = adN s k
    · obtain ⟨k, k1, k2, k3⟩ := hk
      have h8 : kN s ≤ 4 := by
        have : ∀ s : Fin 15, kN s.val ≤ 4 := by decide +kernel
        exact this ⟨s, hs⟩
      subst e
      unfold adN at k3
      have := leaf_fin ⟨s, hs⟩ ⟨k, by omega⟩ (by show k < kN s; omega) (by show 2 ^ sgN s ≤ ndN s k; omega)
      dsimp only at this
      omega
    · exact absurd (con_no (fun _ k k1 k2 k3 => hk ⟨k, k1, k2, k3⟩)) h
  · exact absurd (con_no (fun e2 => absurd e2 e)) h
/-- All slots below are behind it. -/
def Co.pos (C : Co) : Nat := if C.ph = 0 then 2 ^ C.g - 1 else if C.ph = 1 then loN C.g C.node else 15
/-- So many reads at most. -/
def Co.rank (C : Co) : Nat := if C.ph = 0 then 2 * 2 ^ C.g - 2 else if C.ph = 1 then 2 * 2 ^ C.g - 1 + rk C.g C.node else 31

theorem pos_0 (h : C.ph = 0) : C.pos = 2 ^ C.g - 1 := by unfold Co.pos; rw [if_pos h]
theorem pos_1 (h : C.ph = 1) : C.pos = loN C.g C.node := by unfold Co.pos; rw [if_neg (by omega), if_pos h]
theorem pos_2 (h : C.ph = 2) : C.pos = 15 := by unfold Co.pos; rw [if_neg (by omega), if_neg (by omega)]
theorem rank_0 (h : C.ph = 0) : C.rank = 2 * 2 ^ C.g - 2 := by unfold Co.rank; rw [if_pos h]
theorem rank_1 (h : C.ph = 1) : C.rank = 2 * 2 ^ C.g - 1 + rk C.g C.node := by unfold Co.rank; rw [if_neg (by omega), if_pos h]
theorem rank_2 (h : C.ph = 2) : C.rank = 31 := by unfold Co.rank; rw [if_neg (by omega), if_neg (by omega)]

/-! ### a step -/
structure Co.Fit (n : Nat) (C : Co) : Prop where
  ph : C.ph ≤ 2
  gn : C.g ≤ n
  m8 : C.m ≤ 8
  find : C.ph = 0 → C.m = C.g
  look : C.ph = 1 → C.g < n ∧ 1 ≤ C.node ∧ C.node < 2 * 2 ^ C.g ∧ C.m = C.g + 1
  few : C.L.length ≤ C.pos
  small : ∀ s, s ∈ C.L → s < 15
theorem fit_new (n : Nat) : Co.new.Fit n := ⟨by decide, Nat.zero_le _, by decide, fun _ => rfl, fun h => (by cases h), by decide, fun s h => (by cases h)⟩
theorem two_pow_succ' (g : Nat) : 2 ^ (g + 1) = 2 * 2 ^ g := by rw [Nat.pow_succ]; omega
theorem pow16 {g : Nat} (h : g ≤ 4) : 1 ≤ 2 ^ g ∧ 2 ^ g ≤ 16 := ⟨Nat.one_le_two_pow, by have : 2 ^ g ≤ 2 ^ 4 := Nat.pow_le_pow_right (by omega) (by omega); omega⟩
/-- On to what is behind a node. -/
theorem go_beh (D : Co) (hg : D.g < 4) (h1 : 1 ≤ D.node) (h2 : D.node < 2 * 2 ^ D.g) :
    (D.go (behN D.node)).L = D.L ∧ (D.go (behN D.node)).m = D.m ∧ (D.go (behN D.node)).pos = loN D.g D.node + wdN D.g D.node ∧ 2 * 2 ^ D.g + rk D.g D.node ≤ (D.go (behN D.node)).rank ∧
      (((D.go (behN D.node)).ph = 0 ∧ (D.go (behN D.node)).g = D.g + 1) ∨ ((D.go (behN D.node)).ph = 1 ∧ (D.go (behN D.node)).g = D.g ∧ 1 ≤ (D.go (behN D.node)).node ∧ (D.go (behN D.node)).node < 2 * 2 ^ D.g)) := by
  obtain ⟨w1, w2, w3, w4⟩ := way hg h1 h2
  have hb := beh_lt (show D.g < 8 by omega) h1 h2
  have hp := pow16 (show D.g ≤ 4 by omega)
  by_cases hz : behN D.node = 0
  · have e : D.go (behN D.node) = { D with ph := 0, g := D.g + 1 } := by unfold Co.go; rw [if_pos hz, if_pos (by omega)]
    rw [e]
    obtain ⟨q1, q2⟩ := w2 hz
    refine ⟨rfl, rfl, ?_, ?_, .inl ⟨rfl, rfl⟩⟩
    · rw [pos_0 rfl]; dsimp only; rw [two_pow_succ']; omega
    · rw [rank_0 rfl]; dsimp only; rw [two_pow_succ']; omega
  · have e : D.go (behN D.node) = { D with ph := 1, node := behN D.node } := by unfold Co.go; rw [if_neg hz]
    rw [e]
    obtain ⟨q1, q2⟩ := w1 hz
    refine ⟨rfl, rfl, ?_, ?_, .inr ⟨rfl, rfl, by dsimp only; omega, hb⟩⟩
    · rw [pos_1 rfl]; exact q2
    · rw [rank_1 rfl]; dsimp only; omega
theorem wd_pos (g v : Nat) : 1 ≤ wdN g v := Nat.one_le_two_pow
/-- What a step makes, in one of five ways. -/
inductive Way (n : Nat) (f : Nat → Nat → Int) (C D : Co) : Prop
  | found (h0 : C.ph = 0) (hg : C.g < n) (e : D = { C with ph := 1, node := 1, m := C.g + 1 }) (hp : D.pos = C.pos) (hr : C.rank + 1 ≤ D.rank)
  | none (h0 : C.ph = 0) (hg : n ≤ C.g) (e : D = { C with ph := 2 }) (hr : C.rank + 1 ≤ D.rank)
  | skip (h0 : C.ph = 1) (hz : f C.g (5 * 2 ^ C.g + C.node) = 0) (e : D = C.go (behN C.node)) (eL : D.L = C.L) (hp : D.pos = loN C.g C.node + wdN C.g C.node) (hc : C.pos = loN C.g C.node) (hr : C.rank + 1 ≤ D.rank)
  | down (h0 : C.ph = 1) (hz : f C.g (5 * 2 ^ C.g + C.node) ≠ 0) (hl : C.node < 2 ^ C.g) (e : D = { C with ph := 1, node := 2 * C.node }) (hp : D.pos = C.pos) (hr : C.rank + 1 ≤ D.rank)
  | take (h0 : C.ph = 1) (hz : f C.g (5 * 2 ^ C.g + C.node) ≠ 0) (hl : 2 ^ C.g ≤ C.node) (e : D = ({ C with L := C.L ++ [C.node - 1] } : Co).go (behN C.node)) (eL : D.L = C.L ++ [C.node - 1]) (hc : C.pos = C.node - 1) (hp : D.pos = C.pos + 1) (hs : sgN (C.node - 1) = C.g) (h15 : C.node - 1 < 15) (hr : C.rank + 1 ≤ D.rank)
theorem step_way (hn : n ≤ 4) (F : C.Fit n) (hph : C.ph ≠ 2) : Way n f C (C.step n f) := by
  have h12 : C.ph = 0 ∨ C.ph = 1 := by have := F.ph; omega
  have hp := pow16 (show C.g ≤ 4 by have := F.gn; omega)
  rcases h12 with h0 | h0
  · by_cases hg : C.g < n
    · have e : C.step n f = { C with ph := 1, node := 1, m := C.g + 1 } := by unfold Co.step; rw [if_pos h0, if_pos hg]
      obtain ⟨o1, o2⟩ := one_fin ⟨C.g, by omega⟩
      dsimp only at o1 o2
      refine .found h0 hg e ?_ ?_
      · rw [e, pos_1 rfl, pos_0 h0]; exact o1
      · rw [rank_0 h0, e, rank_1 rfl]; dsimp only; omega
    · have e : C.step n f = { C with ph := 2 } := by unfold Co.step; rw [if_pos h0, if_neg hg]
      refine .none h0 (by omega) e ?_
      rw [rank_0 h0, e, rank_2 rfl]; omega
  · obtain ⟨l1, l2, l3, l4⟩ := F.look h0
    have n0 : ¬ C.ph = 0 := by omega
    have ec := pos_1 h0
    have er := rank_1 h0
    obtain ⟨w1, w2, w3, w4⟩ := way (show C.g < 4 by omega) l2 l3
    by_cases hz : f C.g (5 * 2 ^ C.g + C.node) = 0
    · have e : C.step n f = C.go (behN C.node) := by unfold Co.step; rw [if_neg n0, if_pos h0, if_pos hz]
      obtain ⟨g1, g2, g3, g4, _⟩ := go_beh C (by omega) l2 l3
      exact .skip h0 hz e (by rw [e]; exact g1) (by rw [e]; exact g3) ec (by rw [e]; omega)
    · by_cases hl : C.node < 2 ^ C.g
      · have e : C.step n f = { C with ph := 1, node := 2 * C.node } := by
          unfold Co.step; rw [if_neg n0, if_pos h0, if_neg hz, if_pos hl]; unfold Co.go; rw [if_neg (by omega)]
        obtain ⟨q1, q2⟩ := w3 hl
        refine .down h0 hz hl e ?_ ?_
        · rw [e, ec, pos_1 rfl]; exact q2
        · rw [er, e, rank_1 rfl]; dsimp only; omega
      · have e : C.step n f = ({ C with L := C.L ++ [C.node - 1] } : Co).go (behN C.node) := by unfold Co.step; rw [if_neg n0, if_pos h0, if_neg hz, if_neg hl]
        obtain ⟨q1, q2, q3, q4⟩ := w4 (by omega)
        obtain ⟨g1, g2, g3, g4, _⟩ := go_beh ({ C with L := C.L ++ [C.node - 1] } : Co) (by dsimp only; omega) l2 l3
        dsimp only at g1 g3 g4
        exact .take h0 hz (by omega) e (by rw [e]; exact g1) (by rw [ec]; exact q1) (by rw [e, ec, g3]; omega) q3 q4 (by rw [e]; omega)
theorem go_kind (D : Co) (hg : D.g < 4) (h1 : 1 ≤ D.node) (h2 : D.node < 2 * 2 ^ D.g) {n : Nat} (hn : D.g < n) (hm : D.m = D.g + 1) (hL : D.L.length ≤ loN D.g D.node + wdN D.g D.node) (hs : ∀ s, s ∈ D.L → s < 15) : (D.go (behN D.node)).Fit n := by
  obtain ⟨g1, g2, g3, g4, g5⟩ := go_beh D hg h1 h2
  rcases g5 with ⟨q1, q2⟩ | ⟨q1, q2, q3, q4⟩
  · exact ⟨by omega, by omega, by omega, fun _ => by omega, fun h => by omega, by rw [g1, g3]; exact hL, by rw [g1]; exact hs⟩
  · exact ⟨by omega, by omega, by omega, fun h => by omega, fun h => ⟨by omega, q3, by rw [q2]; exact q4, by omega⟩, by rw [g1, g3]; exact hL, by rw [g1]; exact hs⟩
theorem fit_step (hn : n ≤ 4) (F : C.Fit n) : (C.step n f).Fit n := by
  by_cases hph : C.ph = 2
  · have e : C.step n f = C := by unfold Co.step; rw [if_neg (by omega), if_neg (by omega)]
    rw [e]; exact F
  have hp := pow16 (show C.g ≤ 4 by have := F.gn; omega)
  rcases step_way (f := f) hn F hph with ⟨h0, hg, e, h1, h2⟩ | ⟨h0, hg, e, h1⟩ | ⟨h0, hz, e, eL, h1, h2, h3⟩ | ⟨h0, hz, hl, e, h1, h2⟩ | ⟨h0, hz, hl, e, eL, h1, h2, h3, h4, h5⟩
  · have hf := F.few
    rw [← h1] at hf
    rw [e] at hf ⊢
    exact ⟨by dsimp only; omega, F.gn, by dsimp only; omega, fun h => (by cases h), fun _ => ⟨hg, by dsimp only; omega, by dsimp only; omega, rfl⟩, hf, F.small⟩
  · have hf := F.few
    rw [e]
    refine ⟨by dsimp only; omega, F.gn, F.m8, fun h => (by cases h), fun h => (by cases h), ?_, F.small⟩
    rw [pos_2 rfl]
    have e2 := pos_0 h0
    show C.L.length ≤ 15
    omega
  · obtain ⟨l1, l2, l3, l4⟩ := F.look h0
    rw [e]
    exact go_kind C (by omega) l2 l3 l1 l4 (by have := F.few; omega) F.small
  · obtain ⟨l1, l2, l3, l4⟩ := F.look h0
    have hf := F.few
    rw [← h1] at hf
    rw [e] at hf ⊢
    exact ⟨by dsimp only; omega, F.gn, F.m8, fun h => (by cases h), fun _ => ⟨l1, by dsimp only; omega, by dsimp only; omega, l4⟩, hf, F.small⟩
  · obtain ⟨l1, l2, l3, l4⟩ := F.look h0
    have hw := wd_pos C.g C.node
    have hc := F.few
    have h1' := pos_1 h0
    rw [e]
    refine go_kind ({ C with L := C.L ++ [C.node - 1] } : Co) (by dsimp only; omega) l2 l3 l1 l4 ?_ ?_
    · show (C.L ++ [C.node - 1]).length ≤ _
      rw [List.length_append, List.length_singleton]
      dsimp only; omega
    · intro s hs
      rcases List.mem_append.1 hs with h | h
      · exact F.small s h
      · rw [List.mem_singleton.1 h]; exact h4
/-- The arena behind a step. -/
theorem acc_seg (hn : n ≤ 4) (F : C.Fit n) (S : SegA A n f) : SegA (C.acc A) n f ∧ (C.acc A).t.reads = A.t.reads + (if C.ph = 2 then 0 else 1) ∧ (C.acc A).cap = A.cap := by
  have hp := pow16 (show C.g ≤ 4 by have := F.gn; omega)
  have hph := F.ph
  unfold Co.acc
  by_cases h0 : C.ph = 0
  · rw [if_pos h0, if_neg (by omega)]
    obtain ⟨e1, e2⟩ := S.fixed (show C.g < 8 by have := F.gn; omega)
    unfold Ar.read
    rw [if_pos e1]
    exact ⟨S.tally _, rfl, rfl⟩
  · by_cases h1 : C.ph = 1
    · obtain ⟨l1, l2, l3, l4⟩ := F.look h1
      rw [if_neg h0, if_pos h1, if_neg (by omega)]
      obtain ⟨e1, e2⟩ := S.at_ (j := 5 * 2 ^ C.g + C.node) l1 (by omega)
      unfold Ar.read
      rw [if_pos e1]
      exact ⟨S.tally _, rfl, rfl⟩
    · rw [if_neg h0, if_neg h1, if_pos (by omega)]
      exact ⟨S, rfl, rfl⟩
end Col
end Go.Proofs.YtfbnidjcimcfoaaGreat

set_option linter.unusedVariables false
set_option linter.unusedSimpArgs false
namespace Go.Proofs.YtfbnidjcimcfoaaGreat
namespace Col
open Arn Clm Cnt

variable {A : Ar} {n N R i : Nat} {f : Nat → Nat → Int} {C : Co} {c : Nat → Option Ct} {sl : Nat → Nat} {inn al so : Nat → Bool}
/-- While a collect goes: al tells who was within all the time, so who was there at some time; R reads were done. -/
structure FI (N : Nat) (sl : Nat → Nat) (c : Nat → Option Ct) (al so : Nat → Bool) (C : Co) (R : Nat) : Prop where
  fit : C.Fit 4
  al_ : ∀ i, i < N → al i = true → ∃ D, c i = some D ∧ D.more = 1 ∧ D.last ≤ D.first
  so_ : ∀ i, i < N → so i = false → ∀ g j, conO (c i) g j = 0
  has : ∀ i, i < N → al i = true → sl i < C.pos → sl i ∈ C.L
  was : ∀ s, s ∈ C.L → s < C.pos ∧ ∃ i, i < N ∧ so i = true ∧ sl i = s
  up : C.L.Pairwise (· < ·)
  few : R ≤ C.rank
  none_ : (∀ i, i < N → so i = false) → (C.ph = 0 → R ≤ 2 * C.g) ∧ (C.ph = 1 → C.node = 1 ∧ R ≤ 2 * C.g + 1) ∧ R ≤ 9
theorem sum_zero {h : Nat → Nat} : ∀ n : Nat, (∀ i, i < n → h i = 0) → sumTo h n = 0 := by
  intro n hh
  have := sum_same (f := h) (g := fun _ => 0) n hh
  rw [this]
  have := sum_le (f := fun _ : Nat => 0) (k := 0) n (fun _ _ => Nat.le_refl _)
  omega
theorem sum_ge {h : Nat → Nat} : ∀ (n : Nat) {i : Nat}, i < n → h i ≤ sumTo h n := by
  intro n
  induction n with
  | zero => intro i hi; omega
  | succ n ih =>
    intro i hi
    show h i ≤ sumTo h n + h n
    by_cases e : i = n
    · subst e; omega
    · have := ih (show i < n by omega); omega
theorem sum_pos {h : Nat → Nat} : ∀ (n : Nat), sumTo h n ≠ 0 → ∃ i, i < n ∧ h i ≠ 0 := by
  intro n hn
  by_cases hh : ∃ i, i < n ∧ h i ≠ 0
  · exact hh
  · exact absurd (sum_zero n (fun i hi => by
      by_cases e : h i = 0
      · exact e
      · exact absurd ⟨i, hi, e⟩ hh)) hn
/-- Whoever is within has counted at its whole path. -/
theorem in_con {s : Nat} {D : Ct} (h : OneOk s D) (h1 : D.more = 1) (h2 : D.last ≤ D.first) (g j : Nat) : conO (some D) g j = con s 0 (kN s) g j := by
  have := done_in h h2 h1 g j
  rw [← this, conO_exX]
/-- Whoever counts at a slot's own node is of this slot. -/
theorem leaf_con {s g v : Nat} {o : Option Ct} (hs : s < 15) (hk : ∀ D, o = some D → OneOk s D) (hl : 2 ^ g ≤ v) (h : conO o g (5 * 2 ^ g + v) ≠ 0) : s = v - 1 := by
  cases o with
  | none => exact absurd rfl h
  | some D =>
    have hD := hk D rfl
    unfold conO at h
    dsimp only at h
    rw [hD.slot] at h
    have hl2 := hD.le
    have hl3 := hD.last
    split at h
    · exact at_leaf hs (by omega) hl h
    · exact at_leaf hs (Nat.le_refl _) hl h
theorem fi_step (G : Gd sl c N) (hs : ∀ i, sl i < 15) (I : FI N sl c al so C R) (hph : C.ph ≠ 2) : FI N sl c al so (C.step 4 (fun g j => ((bF c N g j : Nat) : Int))) (R + 1) := by
  obtain ⟨f0, f1, f2, f3, f4, f5, f6, f7⟩ := I
  have hF := fit_step (n := 4) (f := fun g j => ((bF c N g j : Nat) : Int)) (by omega) f0
  have hZ : (∀ i, i < N → so i = false) → ∀ g j, ((bF c N g j : Nat) : Int) = 0 := fun h g j => by
    have := sum_zero (h := fun i => conO (c i) g j) N (fun i hi => f2 i hi (h i hi) g j)
    unfold bF; rw [this]; rfl
  rcases step_way (f := fun g j => ((bF c N g j : Nat) : Int)) (n := 4) (by omega) f0 hph with ⟨h0, hg, e, h1, h2⟩ | ⟨h0, hg, e, h1⟩ | ⟨h0, hz, e, eL, h1, h2, h3⟩ | ⟨h0, hz, hl, e, h1, h2⟩ | ⟨h0, hz, hl, e, eL, h1, h2, h3, h4, h5⟩
  · have eL : (C.step 4 (fun g j => ((bF c N g j : Nat) : Int))).L = C.L := by rw [e]
    refine ⟨hF, f1, f2, by rw [h1, eL]; exact f3, by rw [h1, eL]; exact f4, by rw [eL]; exact f5, by omega, fun h => ?_⟩
    obtain ⟨q1, q2, q3⟩ := f7 h
    have := q1 h0
    rw [e]
    exact ⟨fun h => (by cases h), fun _ => ⟨rfl, by dsimp only; omega⟩, by omega⟩
  · have eL : (C.step 4 (fun g j => ((bF c N g j : Nat) : Int))).L = C.L := by rw [e]
    have ep : (C.step 4 (fun g j => ((bF c N g j : Nat) : Int))).pos = 15 := by rw [e]; exact pos_2 rfl
    have e15 : C.pos = 15 := by rw [pos_0 h0, show C.g = 4 by have := f0.gn; omega]
    refine ⟨hF, f1, f2, by rw [ep, eL, ← e15]; exact f3, by rw [ep, eL, ← e15]; exact f4, by rw [eL]; exact f5, by omega, fun h => ?_⟩
    obtain ⟨q1, q2, q3⟩ := f7 h
    have := q1 h0
    have := f0.gn
    rw [e]
    exact ⟨fun h => (by cases h), fun h => (by cases h), by omega⟩
  · obtain ⟨l1, l2, l3, l4⟩ := f0.look h0
    have hno : ∀ i, i < N → al i = true → ¬ (loN C.g C.node ≤ sl i ∧ sl i < loN C.g C.node + wdN C.g C.node) := fun i hi ha ⟨k1, k2⟩ => by
      obtain ⟨D, d1, d2, d3⟩ := f1 i hi ha
      have h1 := in_con (G i D hi d1) d2 d3 C.g (5 * 2 ^ C.g + C.node)
      rw [on_path l1 l2 l3 (hs i) k1 k2] at h1
      have h2 : conO (c i) C.g (5 * 2 ^ C.g + C.node) ≤ sumTo (fun i => conO (c i) C.g (5 * 2 ^ C.g + C.node)) N := sum_ge (h := fun i => conO (c i) C.g (5 * 2 ^ C.g + C.node)) N hi
      rw [d1, h1] at h2
      have h3 : ((bF c N C.g (5 * 2 ^ C.g + C.node) : Nat) : Int) = 0 := hz
      unfold bF at h3
      omega
    refine ⟨hF, f1, f2, fun i hi ha hp => ?_, fun s hm => ?_, by rw [eL]; exact f5, by omega, fun h => ?_⟩
    · rw [eL]
      rw [h1] at hp
      have := hno i hi ha
      exact f3 i hi ha (by rw [h2]; omega)
    · rw [eL] at hm
      obtain ⟨q1, q2⟩ := f4 s hm
      exact ⟨by rw [h1]; omega, q2⟩
    · obtain ⟨q1, q2, q3⟩ := f7 h
      obtain ⟨q4, q5⟩ := q2 h0
      have eb : behN 1 = 0 := by decide
      rw [e, q4, eb]
      unfold Co.go
      rw [if_pos rfl, if_pos (by omega)]
      exact ⟨fun _ => by dsimp only; omega, fun h => (by cases h), by omega⟩
  · have eL : (C.step 4 (fun g j => ((bF c N g j : Nat) : Int))).L = C.L := by rw [e]
    refine ⟨hF, f1, f2, by rw [h1, eL]; exact f3, by rw [h1, eL]; exact f4, by rw [eL]; exact f5, by omega, fun h => absurd (hZ h _ _) hz⟩
  · obtain ⟨l1, l2, l3, l4⟩ := f0.look h0
    refine ⟨hF, f1, f2, fun i hi ha hp => ?_, fun s hm => ?_, ?_, by omega, fun h => absurd (hZ h _ _) hz⟩
    · rw [eL]
      rw [h2, h1] at hp
      by_cases ex : sl i = C.node - 1
      · rw [ex]; simp
      · exact List.mem_append_left _ (f3 i hi ha (by rw [h1]; omega))
    · rw [eL] at hm
      rw [h2]
      rcases List.mem_append.1 hm with hm | hm
      · obtain ⟨q1, q2⟩ := f4 s hm
        exact ⟨by omega, q2⟩
      · have es := List.mem_singleton.1 hm
        refine ⟨by omega, ?_⟩
        have hz' : sumTo (fun i => conO (c i) C.g (5 * 2 ^ C.g + C.node)) N ≠ 0 := fun e0 => hz (by
          show ((bF c N C.g (5 * 2 ^ C.g + C.node) : Nat) : Int) = 0
          unfold bF; rw [e0]; rfl)
        obtain ⟨i, hi, hci⟩ := sum_pos N hz'
        refine ⟨i, hi, ?_, by rw [es]; exact leaf_con (hs i) (fun D hD => G i D hi hD) hl hci⟩
        cases hso : so i with
        | true => rfl
        | false => exact absurd (f2 i hi hso _ _) hci
    · rw [eL, List.pairwise_append]
      exact ⟨f5, List.pairwise_singleton _ _, fun a ha b hb => by
        rw [List.mem_singleton.1 hb]
        have := (f4 a ha).1
        omega⟩
/-- One is picked: it isn't within all the time, and it is there at some time. -/
theorem fi_pick (I : FI N sl c al so C R) (o : Option Ct) : FI N sl (upd c i o) (upd al i false) (upd so i true) C R := by
  obtain ⟨f0, f1, f2, f3, f4, f5, f6, f7⟩ := I
  refine ⟨f0, fun k hk ha => ?_, fun k hk ha => ?_, fun k hk ha => ?_, fun s hm => ?_, f5, f6, fun h => f7 (fun k hk => ?_)⟩
  · by_cases e : k = i
    · subst e; rw [upd_at] at ha; cases ha
    · rw [upd_ne _ _ e] at ha ⊢; exact f1 k hk ha
  · by_cases e : k = i
    · subst e; rw [upd_at] at ha; cases ha
    · rw [upd_ne _ _ e] at ha ⊢; exact f2 k hk ha
  · by_cases e : k = i
    · subst e; rw [upd_at] at ha; cases ha
    · rw [upd_ne _ _ e] at ha; exact f3 k hk ha
  · obtain ⟨q1, k, q2, q3, q4⟩ := f4 s hm
    refine ⟨q1, k, q2, ?_, q4⟩
    by_cases e : k = i
    · subst e; exact upd_at _ _ _
    · rw [upd_ne _ _ e]; exact q3
  · have := h k hk
    by_cases e : k = i
    · subst e; rw [upd_at] at this; cases this
    · rw [upd_ne _ _ e] at this; exact this
def doneC (o : Option Ct) : Bool := match o with
  | none => true
  | some C => decide (C.last ≤ C.first)
/-- A collect begins. -/
theorem fi_new (G : Gd sl c N) (hp : Cp inn c 0 N) : FI N sl c (fun j => inn j && doneC (c j)) (fun j => inn j || !doneC (c j)) Co.new 0 := by
  refine ⟨fit_new 4, fun i hi ha => ?_, fun i hi ha g j => ?_, fun i hi ha hl => ?_, fun s hm => (by cases hm), List.Pairwise.nil, Nat.zero_le _, fun _ => ⟨fun _ => Nat.zero_le _, fun h => (by cases h), by omega⟩⟩
  · rw [Bool.and_eq_true] at ha
    obtain ⟨a1, a2⟩ := ha
    cases hc : c i with
    | none => have := (hp i (Nat.zero_le _) hi).1 hc; rw [this] at a1; cases a1
    | some D =>
      rw [hc] at a2
      rcases (hp i (Nat.zero_le _) hi).2 D hc with ⟨e, _⟩ | ⟨_, e⟩
      · exact ⟨D, rfl, e, of_decide_eq_true a2⟩
      · rw [e] at a1; cases a1
  · rw [Bool.or_eq_false_iff] at ha
    obtain ⟨a1, a2⟩ := ha
    cases hc : c i with
    | none => rfl
    | some D =>
      rw [hc] at a2
      rcases (hp i (Nat.zero_le _) hi).2 D hc with ⟨_, e⟩ | ⟨e, _⟩
      · rw [a1] at e; cases e
      · have a3 : doneC (some D) = true := by simpa using a2
        exact done_out (G i D hi hc) (of_decide_eq_true a3) e g j
  · have : Co.new.pos = 0 := rfl
    omega
def soN (so : Nat → Bool) (N : Nat) : Nat := sumTo (fun i => if so i then 1 else 0) N
theorem fi_end (I : FI N sl c al so C R) (hph : C.ph = 2) (hs : ∀ i, sl i < 15) : (∀ i, i < N → al i = true → sl i ∈ C.L) ∧ R ≤ 16 + 16 * soN so N := by
  obtain ⟨f0, f1, f2, f3, f4, f5, f6, f7⟩ := I
  rw [rank_2 hph] at f6
  refine ⟨fun i hi ha => f3 i hi ha (by rw [pos_2 hph]; exact hs i), ?_⟩
  by_cases h : ∃ i, i < N ∧ so i = true
  · obtain ⟨i, hi, ha⟩ := h
    have : (if so i then 1 else 0) ≤ sumTo (fun i => if so i then 1 else 0) N := sum_ge (h := fun i => if so i then 1 else 0) N hi
    rw [if_pos ha] at this
    unfold soN; omega
  · have := (f7 (fun i hi => by
      cases e : so i with
      | false => rfl
      | true => exact absurd ⟨i, hi, e⟩ h)).2.2
    omega

/-! ### when nothing turns -/
/-- j steps were done; inn tells whose slots are counted. -/
structure SI (inn : Nat → Bool) (C : Co) (j : Nat) : Prop where
  fit : C.Fit 4
  L : C.L = (List.range C.pos).filter inn
  far : C.ph = 2 ∨ j ≤ C.rank
theorem filter_gap (inn : Nat → Bool) (a : Nat) : ∀ d : Nat, (∀ s, a ≤ s → s < a + d → inn s = false) → (List.range (a + d)).filter inn = (List.range a).filter inn := by
  intro d
  induction d with
  | zero => intro _; rfl
  | succ d ih =>
    intro h
    rw [show a + (d + 1) = (a + d) + 1 by omega, List.range_succ, List.filter_append, ih (fun s h1 h2 => h s h1 (by omega))]
    simp [h (a + d) (by omega) (by omega)]
theorem si_step {j : Nat} (I : SI inn C j) (h1 : ∀ s, s < 15 → inn s = true → ∀ g v, con s 0 (kN s) g (5 * 2 ^ g + v) = 1 → f g (5 * 2 ^ g + v) ≠ 0) (h2 : ∀ g v, g < 4 → 2 ^ g ≤ v → v < 2 * 2 ^ g → f g (5 * 2 ^ g + v) ≠ 0 → inn (v - 1) = true) (h15 : ∀ s, 15 ≤ s → inn s = false) : SI inn (C.step 4 f) (j + 1) := by
  obtain ⟨f0, f1, f2⟩ := I
  have hF := fit_step (n := 4) (f := f) (by omega) f0
  by_cases hph : C.ph = 2
  · have e : C.step 4 f = C := by unfold Co.step; rw [if_neg (by omega), if_neg (by omega)]
    rw [e]; exact ⟨f0, f1, .inl hph⟩
  have f2 : j ≤ C.rank := by rcases f2 with h | h; exact absurd h hph; exact h
  rcases step_way (f := f) (n := 4) (by omega) f0 hph with ⟨h0, hg, e, k1, k2⟩ | ⟨h0, hg, e, k1⟩ | ⟨h0, hz, e, eL, k1, k2, k3⟩ | ⟨h0, hz, hl, e, k1, k2⟩ | ⟨h0, hz, hl, e, eL, k1, k2, k3, k4, k5⟩
  · have eL : (C.step 4 f).L = C.L := by rw [e]
    exact ⟨hF, by rw [eL, k1]; exact f1, .inr (by omega)⟩
  · have eL : (C.step 4 f).L = C.L := by rw [e]
    have ep : (C.step 4 f).pos = 15 := by rw [e]; exact pos_2 rfl
    have e15 : C.pos = 15 := by rw [pos_0 h0, show C.g = 4 by have := f0.gn; omega]
    exact ⟨hF, by rw [eL, ep, ← e15]; exact f1, .inr (by omega)⟩
  · obtain ⟨l1, l2, l3, l4⟩ := f0.look h0
    refine ⟨hF, ?_, .inr (by omega)⟩
    rw [eL, k1, f1, k2]
    refine (filter_gap inn _ _ (fun s q1 q2 => ?_)).symm
    cases e : inn s with
    | false => rfl
    | true =>
      have h3 : s < 15 := by
        by_cases hh : s < 15
        · exact hh
        · rw [h15 s (by omega)] at e; cases e
      exact absurd hz (h1 s h3 e C.g C.node (on_path l1 l2 l3 h3 q1 q2))
  · have eL : (C.step 4 f).L = C.L := by rw [e]
    exact ⟨hF, by rw [eL, k1]; exact f1, .inr (by omega)⟩
  · obtain ⟨l1, l2, l3, l4⟩ := f0.look h0
    refine ⟨hF, ?_, .inr (by omega)⟩
    rw [eL, k2, k1, f1, k1, List.range_succ, List.filter_append]
    simp [h2 C.g C.node l1 hl l3 hz]
theorem si_new : SI inn Co.new 0 := ⟨fit_new 4, rfl, .inr (Nat.zero_le _)⟩
theorem si_end {j : Nat} (I : SI inn C j) (hj : 32 ≤ j) : C.ph = 2 ∧ C.L = (List.range 15).filter inn := by
  obtain ⟨f0, f1, f2⟩ := I
  have hph : C.ph = 2 := by
    by_cases h : C.ph = 2
    · exact h
    · have f2 : j ≤ C.rank := by rcases f2 with h' | h'; exact absurd h' h; exact h'
      exfalso
      have hp := pow16 (show C.g ≤ 4 from f0.gn)
      have h3 := f0.ph
      by_cases h0 : C.ph = 0
      · rw [rank_0 h0] at f2; omega
      · have h1 : C.ph = 1 := by omega
        obtain ⟨l1, l2, l3, l4⟩ := f0.look h1
        rcases step_way (f := fun _ _ => 0) (n := 4) (by omega) f0 h with ⟨h0, hg, e, k1, k2⟩ | ⟨h0, hg, e, k1⟩ | ⟨h0, hz, e, eL, k1, k2, k3⟩ | ⟨h0, hz, hl, e, k1, k2⟩ | ⟨h0, hz, hl, e, eL, k1, k2, k3, k4, k5⟩
        · omega
        · omega
        · have hr := rk_fin ⟨C.g, l1⟩ ⟨C.node, by have : 2 ^ C.g ≤ 2 ^ 3 := Nat.pow_le_pow_right (by omega) (by omega); omega⟩ l2 l3
          dsimp only at hr
          rw [rank_1 h1] at f2
          omega
        · exact absurd rfl hz
        · exact absurd rfl hz
  exact ⟨hph, by rw [f1, pos_2 hph]⟩
end Col
end Go.Proofs.YtfbnidjcimcfoaaGreat
