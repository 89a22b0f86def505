/- Which operations and responses the document calls right (of stage 5's texts). -/
import Derived.Test.YtmodanjblbaedaaDoorModelRight
import Derived.Deep.Cut
import Derived.RangeFuncRecord
import Derived.LoopTactic
set_option linter.unusedVariables false
set_option linter.unusedSimpArgs false
namespace Go.Proofs.YtmodanjblbaedaaDoor
namespace Ops
open Go.RowKit Go.Lib

theorem blk4 {W : World} {g : Nat} {x0 x1 x2 x3 : Value} {t : TypeId} (h : W.heap[g]? = some (.cells #[x0, x1, x2, x3] t (0, 0))) : (W.cell? ⟨g, 0, none⟩ = some x0 ∧ W.cell? ⟨g, 1, none⟩ = some x1 ∧ W.cell? ⟨g, 2, none⟩ = some x2 ∧ W.cell? ⟨g, 3, none⟩ = some x3) ∧ (W.frozen? ⟨g, 0, none⟩ = false ∧ W.frozen? ⟨g, 1, none⟩ = false ∧ W.frozen? ⟨g, 2, none⟩ = false ∧ W.frozen? ⟨g, 3, none⟩ = false) := by
  refine ⟨⟨?_, ?_, ?_, ?_⟩, Frm.frozen_row _ _ _ _ _ h, Frm.frozen_row _ _ _ _ _ h, Frm.frozen_row _ _ _ _ _ h, Frm.frozen_row _ _ _ _ _ h⟩ <;> (rw [Frm.cell_row _ _ _ _ _ _ h]; rfl)
theorem most_op : ∀ c, c < opT.length → opT.m0 c ≤ 255 ∧ opT.m1 c ≤ 1023 ∧ opT.m2 c ≤ 1023 := by decide
theorem most_resp : ∀ c, c < respT.length → respT.m0 c ≤ 268435455 ∧ respT.m1 c = 0 ∧ respT.m2 c = 0 := by decide
theorem op_range {c k a b : Int} (h : opT.rightB c k a b = true) : (0 ≤ c ∧ c ≤ 14) ∧ (0 ≤ k ∧ k ≤ 255) ∧ (0 ≤ a ∧ a ≤ 1023) ∧ (0 ≤ b ∧ b ≤ 1023) := by
  obtain ⟨n, rfl, hn, h0, h1, h2⟩ := right_parts h
  have := most_op n hn
  have hn' : n < 15 := hn
  omega
theorem resp_range {k v : Int} (h : respT.rightB k v 0 0 = true) : (0 ≤ k ∧ k ≤ 5) ∧ (0 ≤ v ∧ v ≤ 268435455) := by
  obtain ⟨n, rfl, hn, h0, h1, h2⟩ := right_parts h
  have := most_resp n hn
  have hn' : n < 6 := hn
  omega
def usesOf (c : Nat) : Int := [0, 2, 0, 0, 1, 3, 1, 7, 0, 1, 3, 1, 1, 1, 1].getD c 0
set_option maxHeartbeats 2000000 in
theorem uses_any (c : Int) (w : World) (h : 0 ≤ c ∧ c ≤ 14) :
    Calls Tryd.prog 40 #[.int .i64 c] w fun e w' => e = .returned (.int .i64 (usesOf c.toNat)) ∧ Frm.Turn [] w w' := by
  have h' : c = 0 ∨ c = 1 ∨ c = 2 ∨ c = 3 ∨ c = 4 ∨ c = 5 ∨ c = 6 ∨ c = 7 ∨ c = 8 ∨ c = 9 ∨ c = 10 ∨ c = 11 ∨ c = 12 ∨ c = 13 ∨ c = 14 := by omega
  clear h
  rcases h' with rfl | rfl | rfl | rfl | rfl | rfl | rfl | rfl | rfl | rfl | rfl | rfl | rfl | rfl | rfl
  all_goals
    go_enter Tryd.func40, Tryd.ntmps40
    go_wp2
    go_ret
    exact ⟨rfl, (Frm.Turn.refl [] w).alloc _⟩

theorem uses_most : ∀ n : Nat, n < 15 → (0 ≤ usesOf n ∧ usesOf n ≤ 7) ∧ (opT.m0 n = if usesOf n % 2 = 1 then 255 else 0) ∧ (opT.m1 n = if usesOf n / 2 % 2 = 1 then 1023 else 0) ∧ (opT.m2 n = if 3 < usesOf n then 1023 else 0) := by decide
/-- Right, by what is used. -/
theorem right_uses (n : Nat) (k a b : Int) (hn : n < 15) (hk : 0 ≤ k ∧ k ≤ 255) (ha : 0 ≤ a ∧ a ≤ 1023) (hb : 0 ≤ b ∧ b ≤ 1023) :
    opT.rightB n k a b = decide ((k = 0 ∨ usesOf n % 2 = 1) ∧ (a = 0 ∨ usesOf n / 2 % 2 = 1) ∧ (b = 0 ∨ 3 < usesOf n)) := by
  obtain ⟨_, h0, h1, h2⟩ := uses_most n hn
  have hl : opT.length = 15 := rfl
  have e1 : ((n : Int)).toNat = n := by omega
  unfold Tab.rightB allowB okB
  rw [e1, h0, h1, h2, Bool.eq_iff_iff]
  simp only [Bool.and_eq_true, decide_eq_true_eq]
  rw [hl]
  constructor
  · rintro ⟨_, ⟨p0, p1⟩, p2⟩
    refine ⟨?_, ?_, ?_⟩
    · split at p0 <;> omega
    · split at p1 <;> omega
    · split at p2 <;> omega
  · rintro ⟨p0, p1, p2⟩
    refine ⟨by omega, ⟨?_, ?_⟩, ?_⟩
    · split <;> omega
    · split <;> omega
    · split <;> omega
theorem right_far {c k a b : Int} (h : ¬ ((0 ≤ c ∧ c ≤ 14) ∧ (0 ≤ k ∧ k ≤ 255) ∧ (0 ≤ a ∧ a ≤ 1023) ∧ (0 ≤ b ∧ b ≤ 1023))) : opT.rightB c k a b = false := by
  cases e : opT.rightB c k a b with
  | false => rfl
  | true => exact absurd (op_range e) h

set_option maxRecDepth 100000 in
set_option maxHeartbeats 4000000 in
theorem refRight_far (c k a b : Int) (w : World) (h : ¬ ((0 ≤ c ∧ c ≤ 14) ∧ (0 ≤ k ∧ k ≤ 255) ∧ (0 ≤ a ∧ a ≤ 1023) ∧ (0 ≤ b ∧ b ≤ 1023))) :
    Calls Tryd.prog 24 #[.agg #[.int .i64 c, .int .i64 k, .int .i64 a, .int .i64 b]] w fun e w' => e = .returned (.bool (opT.rightB c k a b)) ∧ Frm.Turn [] w w' := by
  have HR := Lib.hid (right_far h)
  have h' : c < 0 ∨ (0 ≤ c ∧ 14 < c) ∨ (0 ≤ c ∧ c ≤ 14 ∧ k < 0) ∨ (0 ≤ c ∧ c ≤ 14 ∧ 0 ≤ k ∧ 255 < k) ∨ (0 ≤ c ∧ c ≤ 14 ∧ 0 ≤ k ∧ k ≤ 255 ∧ a < 0) ∨ (0 ≤ c ∧ c ≤ 14 ∧ 0 ≤ k ∧ k ≤ 255 ∧ 0 ≤ a ∧ 1023 < a) ∨ (0 ≤ c ∧ c ≤ 14 ∧ 0 ≤ k ∧ k ≤ 255 ∧ 0 ≤ a ∧ a ≤ 1023 ∧ b < 0) ∨ (0 ≤ c ∧ c ≤ 14 ∧ 0 ≤ k ∧ k ≤ 255 ∧ 0 ≤ a ∧ a ≤ 1023 ∧ 0 ≤ b ∧ 1023 < b) := by omega
  clear h
  rcases h' with h1 | ⟨h1, h2⟩ | ⟨h1, h2, h3⟩ | ⟨h1, h2, h3, h4⟩ | ⟨h1, h2, h3, h4, h5⟩ | ⟨h1, h2, h3, h4, h5, h6⟩ | ⟨h1, h2, h3, h4, h5, h6, h7⟩ | ⟨h1, h2, h3, h4, h5, h6, h7, h8⟩
  all_goals
    go_enter Tryd.func24, Tryd.ntmps24
    go_wp2
    go_ret
    exact ⟨by rw [HR.out]; rfl, (Frm.Turn.refl [] w).alloc _⟩

set_option maxRecDepth 100000 in
set_option maxHeartbeats 400000 in
theorem refRight_near (c k a b : Int) (w : World) (c0 : 0 ≤ c) (c1 : c ≤ 14) (k0 : 0 ≤ k) (k1 : k ≤ 255) (a0 : 0 ≤ a) (a1 : a ≤ 1023) (b0 : 0 ≤ b) (b1 : b ≤ 1023) :
    Calls Tryd.prog 24 #[.agg #[.int .i64 c, .int .i64 k, .int .i64 a, .int .i64 b]] w fun e w' => e = .returned (.bool (opT.rightB c k a b)) ∧ Frm.Turn [] w w' := by
  have HT := Lib.hid ((Frm.Turn.refl [] w).alloc (.cells #[.int .i64 c, .int .i64 k, .int .i64 a, .int .i64 b] 35))
  have HB : Hid ((w.alloc (.cells #[.int .i64 c, .int .i64 k, .int .i64 a, .int .i64 b] 35)).heap[w.heap.size]? = some (.cells #[.int .i64 c, .int .i64 k, .int .i64 a, .int .i64 b] 35 (0, 0))) := Lib.hid (World.alloc_heap_new w _)
  have hU := uses_any c (w.alloc (.cells #[.int .i64 c, .int .i64 k, .int .i64 a, .int .i64 b] 35)) ⟨c0, c1⟩
  have hum := (uses_most c.toNat (by omega)).1
  have hri := right_uses c.toNat k a b (by omega) ⟨k0, k1⟩ ⟨a0, a1⟩ ⟨b0, b1⟩
  rw [show ((c.toNat : Nat) : Int) = c from by omega] at hri
  obtain ⟨u, hu⟩ : ∃ u, u = usesOf c.toNat := ⟨_, rfl⟩
  rw [← hu] at hU hum hri
  clear hu
  obtain ⟨u0, u1⟩ := hum
  have HU := Lib.hid hU
  clear hU
  have HP := Lib.hid hri
  clear hri
  have fin : ∀ (r : Bool) (P : Prop) [Decidable P], opT.rightB c k a b = decide P → (r = true ↔ P) → Ending.returned (.bool r) = .returned (.bool (opT.rightB c k a b)) := by
    intro r P _ e h
    rw [e]
    congr 2
    rw [Bool.eq_iff_iff, h]; simp
  have FIN := Lib.hid fin
  clear fin
  have q2 : (k == 0) = decide (k = 0) := rfl
  have split : (k = 0 ∨ (k ≠ 0 ∧ u % 2 = 1)) ∨ (k ≠ 0 ∧ u % 2 ≠ 1) := by omega
  have splita : (a = 0 ∨ (a ≠ 0 ∧ u / 2 % 2 = 1)) ∨ (a ≠ 0 ∧ u / 2 % 2 ≠ 1) := by omega
  have splitb : (b = 0 ∨ (b ≠ 0 ∧ 3 < u)) ∨ (b ≠ 0 ∧ ¬ 3 < u) := by omega
  clear q2
  go_enter Tryd.func24, Tryd.ntmps24
  go_upto_region 4 with (go_at_call 40; (with_reducible refine (HU.out).mono ?_); rintro e w1 ⟨rfl, hT⟩; obtain ⟨⟨d0, d1, d2, d3⟩, _⟩ := blk4 (hT.keep HB.out (by simp)); have HT1 := Lib.hid (HT.out.trans hT (by simp)); clear hT)
  rcases split with (rfl | ⟨p1, p2⟩) | ⟨p1, p2⟩
  all_goals rcases splita with (rfl | ⟨r1, r2⟩) | ⟨r1, r2⟩
  all_goals rcases splitb with (rfl | ⟨s1, s2⟩) | ⟨s1, s2⟩
  all_goals
    try (have p3 : (k == 0) = false := by simpa using p1)
    try (have p4 : (u % 2 == 1) = true := by simpa using p2)
    try (have p4 : (u % 2 == 1) = false := by simpa using p2)
    try (have r3 : (a == 0) = false := by simpa using r1)
    try (have r4 : (u / 2 % 2 == 1) = true := by simpa using r2)
    try (have r4 : (u / 2 % 2 == 1) = false := by simpa using r2)
    try (have s3 : (b == 0) = false := by simpa using s1)
    go_wp2
    go_ret
    exact ⟨FIN.out _ _ HP.out (by first | (simp; done) | (simp; omega)), HT1.out⟩

theorem refRight_any (c k a b : Int) (w : World) :
    Calls Tryd.prog 24 #[.agg #[.int .i64 c, .int .i64 k, .int .i64 a, .int .i64 b]] w fun e w' => e = .returned (.bool (opT.rightB c k a b)) ∧ Frm.Turn [] w w' := by
  by_cases h : (0 ≤ c ∧ c ≤ 14) ∧ (0 ≤ k ∧ k ≤ 255) ∧ (0 ≤ a ∧ a ≤ 1023) ∧ (0 ≤ b ∧ b ≤ 1023)
  · obtain ⟨⟨c0, c1⟩, ⟨k0, k1⟩, ⟨a0, a1⟩, b0, b1⟩ := h
    exact refRight_near c k a b w c0 c1 k0 k1 a0 a1 b0 b1
  · exact refRight_far c k a b w h
theorem resp_kinds : ∀ n : Nat, n < 6 → respT.m0 n = if n = 0 ∨ n = 4 then 268435455 else 0 := by decide
theorem resp_near (n : Nat) (v : Int) (hn : n < 6) (hv : 0 ≤ v ∧ v ≤ 268435455) : respT.rightB n v 0 0 = decide (v = 0 ∨ n = 0 ∨ n = 4) := by
  have h0 := resp_kinds n hn
  obtain ⟨_, h1, h2⟩ := most_resp n hn
  have hl : respT.length = 6 := rfl
  have e1 : ((n : Int)).toNat = n := by omega
  unfold Tab.rightB allowB okB
  rw [e1, h0, h1, h2, Bool.eq_iff_iff]
  simp only [Bool.and_eq_true, decide_eq_true_eq]
  rw [hl]
  constructor
  · rintro ⟨_, ⟨p0, p1⟩, p2⟩
    split at p0 <;> omega
  · intro p0
    refine ⟨by omega, ⟨?_, by omega⟩, by omega⟩
    split <;> omega
theorem resp_far {k v : Int} (h : ¬ ((0 ≤ k ∧ k ≤ 5) ∧ (0 ≤ v ∧ v ≤ 268435455))) : respT.rightB k v 0 0 = false := by
  cases e : respT.rightB k v 0 0 with
  | false => rfl
  | true => exact absurd (resp_range e) h

set_option maxRecDepth 100000 in
set_option maxHeartbeats 2000000 in
theorem refRightResp_any (k v : Int) (w : World) :
    Calls Tryd.prog 19 #[.agg #[.int .i64 k, .int .i64 v]] w fun e w' => e = .returned (.bool (respT.rightB k v 0 0)) ∧ Frm.Turn [] w w' := by
  by_cases h : (0 ≤ k ∧ k ≤ 5) ∧ (0 ≤ v ∧ v ≤ 268435455)
  · obtain ⟨⟨k0, k1⟩, v0, v1⟩ := h
    have hri := resp_near k.toNat v (by omega) ⟨v0, v1⟩
    rw [show ((k.toNat : Nat) : Int) = k from by omega] at hri
    have HX : ∀ r : Bool, (r = true ↔ (v = 0 ∨ k = 0 ∨ k = 4)) → Hid (respT.rightB k v 0 0 = r) := by
      intro r hr
      refine Lib.hid ?_
      rw [hri, Bool.eq_iff_iff, hr]
      simp only [decide_eq_true_eq]
      omega
    clear hri
    have h' : v = 0 ∨ (v ≠ 0 ∧ k = 0) ∨ (v ≠ 0 ∧ k ≠ 0 ∧ k = 4) ∨ (v ≠ 0 ∧ k ≠ 0 ∧ k ≠ 4) := by omega
    rcases h' with rfl | ⟨h1, rfl⟩ | ⟨h1, h2, rfl⟩ | ⟨h1, h2, h3⟩
    · have HR := HX true (by simp)
      clear HX
      go_enter Tryd.func19, Tryd.ntmps19
      go_wp2
      go_ret
      exact ⟨by rw [HR.out]; rfl, (Frm.Turn.refl [] w).alloc _⟩
    · have HR := HX true (by simp)
      have q1 : (v == 0) = false := by simpa using h1
      clear HX
      go_enter Tryd.func19, Tryd.ntmps19
      go_wp2
      go_ret
      exact ⟨by rw [HR.out]; rfl, (Frm.Turn.refl [] w).alloc _⟩
    · have HR := HX true (by simp)
      have q1 : (v == 0) = false := by simpa using h1
      clear HX
      go_enter Tryd.func19, Tryd.ntmps19
      go_wp2
      go_ret
      exact ⟨by rw [HR.out]; rfl, (Frm.Turn.refl [] w).alloc _⟩
    · have HR := HX false (by simp; omega)
      have q1 : (v == 0) = false := by simpa using h1
      have q2 : (k == 0) = false := by simpa using h2
      have q3 : (k == 4) = false := by simpa using h3
      clear HX
      go_enter Tryd.func19, Tryd.ntmps19
      go_wp2
      go_ret
      exact ⟨by rw [HR.out]; rfl, (Frm.Turn.refl [] w).alloc _⟩
  · have HR := Lib.hid (resp_far h)
    have h' : k < 0 ∨ (0 ≤ k ∧ 5 < k) ∨ (0 ≤ k ∧ k ≤ 5 ∧ v < 0) ∨ (0 ≤ k ∧ k ≤ 5 ∧ 0 ≤ v ∧ 268435455 < v) := by omega
    clear h
    rcases h' with h1 | ⟨h1, h2⟩ | ⟨h1, h2, h3⟩ | ⟨h1, h2, h3, h4⟩
    all_goals
      go_enter Tryd.func19, Tryd.ntmps19
      go_wp2
      go_ret
      exact ⟨by rw [HR.out]; rfl, (Frm.Turn.refl [] w).alloc _⟩

end Ops
end Go.Proofs.YtmodanjblbaedaaDoor
