/- Right responses: the calls of layer 5 that layer 9 reaches. -/
import Derived.Test.YtmjdcpcndggflaaDoorOpsTabs
import Derived.Test.YtmjdcpcndggflaaDoorOpsAllows
import Derived.StillTailTactics
import Derived.Deep.QuietTactic
import Derived.BigQuiet
import Derived.Laws.BitsAll
import Derived.WalkArith
import Derived.RangeFuncRecord
set_option linter.unusedVariables false
set_option linter.unusedSimpArgs false
namespace Go.Proofs.YtmjdcpcndggflaaDoor
namespace Ops
open Go.RowKit Go.Lib
theorem TabCells.below {T : Tab} {g : Nat} {w w' : World} (h : TabCells T g w) (hb : Below w.heap.size w w') : TabCells T g w' := by
  intro c hc
  obtain ⟨h0, h1, h2, h3⟩ := h c hc
  exact ⟨(hb.cell (World.block_lt_of_cell? w _ h0)).trans h0, (hb.cell (World.block_lt_of_cell? w _ h1)).trans h1, (hb.cell (World.block_lt_of_cell? w _ h2)).trans h2, (hb.cell (World.block_lt_of_cell? w _ h3)).trans h3⟩
/-- What is known of the world. -/
structure Kn (w : World) : Prop where
  resps : TabCells respT 0 w
theorem Kn.below {w w' : World} (h : Kn w) (hb : Below w.heap.size w w') : Kn w' := ⟨h.1.below hb⟩
theorem Kn.turn {w w' : World} (h : Kn w) (hT : Frm.Turn [] w w') : Kn w' := h.below (hT.below (Nat.le_refl _) (by simp))
def W64 (a : Int) : Prop := 0 ≤ a ∧ a ≤ 18446744073709551615
theorem and_low (a : Int) (i : Nat) (h0 : 0 ≤ a) (h1 : a ≤ 18446744073709551615) (m : Int) (hm : m = (2 ^ i : Nat) - 1) (hi : i ≤ 60) : bits .and .u64 a m = a % (2 ^ i : Nat) := by
  have hp : (2 : Nat) ^ i ≤ 2 ^ 60 := Nat.pow_le_pow_right (by decide) hi
  have hq : 1 ≤ (2 : Nat) ^ i := Nat.one_le_pow _ _ (by decide)
  have h60 : (2 : Nat) ^ 60 = 1152921504606846976 := by decide
  rw [u64_and _ _ (by omega) (by omega) (by omega) (by omega)]
  rw [show m.toNat = 2 ^ i - 1 by omega, Nat.and_two_pow_sub_one_eq_mod]
  first | (rw [Int.natCast_emod, Int.toNat_of_nonneg h0]) | (simp [Int.toNat_of_nonneg h0])
theorem and28 (a : Int) (h0 : 0 ≤ a) (h1 : a ≤ 18446744073709551615) : bits .and .u64 a 268435455 = a % 268435456 := by
  have := and_low a 28 h0 h1 268435455 (by decide) (by decide); simpa using this
theorem most_resp : ∀ c, c < respT.length → respT.m0 c ≤ 268435455 ∧ respT.m1 c = 0 ∧ respT.m2 c = 0 := by decide
theorem resp_range {k v : Int} (h : respT.rightB k v 0 0 = true) : (0 ≤ k ∧ k ≤ 5) ∧ (0 ≤ v ∧ v ≤ 268435455) := by
  obtain ⟨n, rfl, hn, h0, h1, h2⟩ := right_parts h
  have := most_resp n hn
  have hn' : n < 6 := hn
  omega
/-- A region that reads, and then does one thing: its reads in the text's order. -/
theorem wp_tail {P : Program} {id : Nat} {Q : Exit → Act → World → Prop} {a : Act} {w : World} {l : List Oper} (n : Nat) (hm : P.follows .mixedOrders = true) (hB : Region.lexTailB .any l.toArray n = true)
    (h : wpStill P l.toArray w.drew (fun a' => wpList P l.toArray Q (l.drop n) a' w.drew) (l.take n) a) : (Code.region id l.toArray true).wp P Q a w := wp_region_still_tail n hm hB h
set_option maxRecDepth 100000 in
set_option maxHeartbeats 2000000 in
theorem rightResp_in (n : Nat) (v : Int) (w : World) (hk : Kn w) (hn : n < 6) :
    Calls Tryd.prog 51 #[.agg #[.int .i64 n, .int .i64 v]] w fun e w' => e = .returned (.bool (respT.rightB n v 0 0)) ∧ Frm.Turn [] w w' := by
  obtain ⟨h0, h1, h2, h3⟩ := (hk.turn ((Frm.Turn.refl [] w).alloc (.cells #[.int .i64 n, .int .i64 v] 69))).resps n hn
  have e0 : 4 * n = n * 4 := by omega
  rw [e0] at h0 h1 h2 h3
  clear hk e0
  have HT := Lib.hid (fun o => (Frm.Turn.refl [] w).alloc o)
  go_enter Tryd.func51, Tryd.ntmps51
  go_wp2
  have t1 : decide ((0 : Int) ≤ n) = true := by simp
  have t3 : (n : Int) < 6 := by omega
  have HA := Lib.hid (allows_any ⟨(respT.nm n).toArray⟩ (respT.m0 n) (respT.m1 n) (respT.m2 n) v 0 0)
  have HR : Hid (respT.rightB n v 0 0 = allowB (respT.m0 n) (respT.m1 n) (respT.m2 n) v 0 0) := by
    refine Lib.hid ?_
    unfold Tab.rightB
    rw [decide_eq_true (show (0 : Int) ≤ n ∧ (n : Int) < respT.length from ⟨by omega, by show (n : Int) < 6; omega⟩)]
    rfl
  refine wp_tail 16 (by kernel_rfl) (by kernel_rfl) ?_
  simp only [List.take_succ_cons, List.take_zero, List.drop_succ_cons, List.drop_zero]
  iterate 16 still_step
  refine wpStill_nil ?_
  go_wp2_with (go_at_call 56; (with_reducible refine (HA.out _).mono ?_); rintro e w1 ⟨rfl, hT⟩; have HT1 := Lib.hid (((HT.out _).drew).trans hT (by simp)); clear hT)
  go_ret
  exact ⟨by rw [HR.out]; rfl, HT1.out⟩
set_option maxRecDepth 100000 in
set_option maxHeartbeats 2000000 in
theorem rightResp_out (c v : Int) (w : World) (hc : c < 0 ∨ 6 ≤ c) :
    Calls Tryd.prog 51 #[.agg #[.int .i64 c, .int .i64 v]] w fun e w' => e = .returned (.bool (respT.rightB c v 0 0)) ∧ Frm.Turn [] w w' := by
  have HR : Hid (respT.rightB c v 0 0 = false) := by
    refine Lib.hid ?_
    unfold Tab.rightB
    rw [decide_eq_false (show ¬ ((0 : Int) ≤ c ∧ c < respT.length) from fun h => by have h2 : c < 6 := h.2; omega)]
    rfl
  have HT := Lib.hid (fun o => (Frm.Turn.refl [] w).alloc o)
  rcases Int.lt_or_le c 0 with h | h
  · have t1 : decide ((0 : Int) ≤ c) = false := by simpa using h
    clear hc
    go_enter Tryd.func51, Tryd.ntmps51
    go_wp2
    go_quiet (fail)
    go_wp2
    go_ret
    exact ⟨by rw [HR.out]; rfl, (HT.out _).drewN _⟩
  · have t1 : decide ((0 : Int) ≤ c) = true := by simpa using h
    have t2 : decide (c < 6) = false := by simp; omega
    clear hc
    go_enter Tryd.func51, Tryd.ntmps51
    go_wp2
    go_quiet (fail)
    go_wp2
    go_ret
    exact ⟨by rw [HR.out]; rfl, (HT.out _).drewN _⟩
theorem rightResp_any (c v : Int) (w : World) (hk : Kn w) :
    Calls Tryd.prog 51 #[.agg #[.int .i64 c, .int .i64 v]] w fun e w' => e = .returned (.bool (respT.rightB c v 0 0)) ∧ Frm.Turn [] w w' := by
  by_cases h : c < 0 ∨ 6 ≤ c
  · exact rightResp_out c v w h
  · obtain ⟨n, rfl⟩ : ∃ n : Nat, c = n := ⟨c.toNat, by omega⟩
    exact rightResp_in n v w hk (by omega)
def vC (n : Int) : Int := n / 268435456
def vV (n : Int) : Int := n % 268435456
def vOk (n : Int) : Bool := respT.rightB (vC n) (vV n) 0 0
def vAns (n : Int) : Value := if vOk n then .agg #[.int .i64 (vC n), .int .i64 (vV n)] else .agg #[.int .i64 0, .int .i64 0]
theorem blk2 {W : World} {g : Nat} {x0 x1 : Value} {t : TypeId} (h : W.heap[g]? = some (.cells #[x0, x1] t (0, 0))) : (W.cell? ⟨g, 0, none⟩ = some x0 ∧ W.cell? ⟨g, 1, none⟩ = some x1) ∧ (W.frozen? ⟨g, 0, none⟩ = false ∧ W.frozen? ⟨g, 1, none⟩ = false) := by
  refine ⟨⟨?_, ?_⟩, Frm.frozen_row _ _ _ _ _ h, Frm.frozen_row _ _ _ _ _ h⟩ <;> (rw [Frm.cell_row _ _ _ _ _ _ h]; rfl)
theorem heap_below (w : World) (o o' : Obj) : ((w.alloc o).alloc o').heap[w.heap.size]? = some o := by
  rw [Below.heap_alloc _ _ _ (by simp)]; exact World.alloc_heap_new w o
theorem heap_last (w : World) (o o' : Obj) : ((w.alloc o).alloc o').heap[w.heap.size + 1]? = some o' := by
  have := World.alloc_heap_new (w.alloc o) o'
  simpa using this
set_option maxRecDepth 100000 in
set_option maxHeartbeats 2000000 in
theorem unpackResp_any (n : Int) (w : World) (hk : Kn w) (hn : W64 n) :
    Calls Tryd.prog 42 #[.int .u64 n] w fun e w' => e = .returned (.tuple #[vAns n, .bool (vOk n)]) ∧ Frm.Turn [] w w' := by
  obtain ⟨n0, n1⟩ := hn
  have a1 := and28 n (by omega) (by omega)
  have HT := Lib.hid (((Frm.Turn.refl [] w).alloc (.cells #[.int .i64 0, .int .i64 0] 69)).alloc (.cells #[.int .i64 (n / 268435456), .int .i64 (n % 268435456)] 69))
  have HB0 := Lib.hid (heap_below w (.cells #[.int .i64 0, .int .i64 0] 69) (.cells #[.int .i64 (n / 268435456), .int .i64 (n % 268435456)] 69))
  have HB1 := Lib.hid (heap_last w (.cells #[.int .i64 0, .int .i64 0] 69) (.cells #[.int .i64 (n / 268435456), .int .i64 (n % 268435456)] 69))
  have HR := Lib.hid (rightResp_any (n / 268435456) (n % 268435456) _ (hk.turn HT.out))
  cases hr : vOk n
  · have HX : Hid (vAns n = .agg #[.int .i64 0, .int .i64 0]) := Lib.hid (by unfold vAns; rw [hr]; rfl)
    have hr' : respT.rightB (n / 268435456) (n % 268435456) 0 0 = false := hr
    rw [hr'] at HR
    clear hr hk hr'
    go_enter Tryd.func42, Tryd.ntmps42
    go_wp2_with (go_at_call 51; (with_reducible refine (HR.out).mono ?_); rintro e w1 ⟨rfl, hT⟩; obtain ⟨⟨e0, e1⟩, f0, f1⟩ := blk2 (hT.keep HB0.out (by simp)); obtain ⟨⟨g0, g1⟩, i0, i1⟩ := blk2 (hT.keep HB1.out (by simp)); have HT1 := Lib.hid ((HT.out).trans hT (by simp)); clear hT)
    rw [HX.out]
    exact bodyPost_ret (v := .tuple #[.agg #[.int .i64 0, .int .i64 0], .bool false]) (by simp [results, Tryd.results42, go_sem, e0, e1]) rfl ⟨rfl, ((HT1.out.setCell (p := ⟨w.heap.size, 0, none⟩) (.inr (Nat.le_refl _)) _).setCell (p := ⟨w.heap.size, 1, none⟩) (.inr (Nat.le_refl _)) _)⟩
  · have HX : Hid (vAns n = .agg #[.int .i64 (n / 268435456), .int .i64 (n % 268435456)]) := Lib.hid (by unfold vAns; rw [hr]; rfl)
    have hr' : respT.rightB (n / 268435456) (n % 268435456) 0 0 = true := hr
    rw [hr'] at HR
    clear hr hk hr'
    go_enter Tryd.func42, Tryd.ntmps42
    go_wp2_with (go_at_call 51; (with_reducible refine (HR.out).mono ?_); rintro e w1 ⟨rfl, hT⟩; obtain ⟨⟨e0, e1⟩, f0, f1⟩ := blk2 (hT.keep HB0.out (by simp)); obtain ⟨⟨g0, g1⟩, i0, i1⟩ := blk2 (hT.keep HB1.out (by simp)); have HT1 := Lib.hid ((HT.out).trans hT (by simp)); clear hT)
    rw [HX.out]
    exact bodyPost_ret (v := .tuple #[.agg #[.int .i64 (n / 268435456), .int .i64 (n % 268435456)], .bool true]) (by simp [results, Tryd.results42, go_sem, e0, e1]) rfl ⟨rfl, ((HT1.out.setCell (p := ⟨w.heap.size, 0, none⟩) (.inr (Nat.le_refl _)) _).setCell (p := ⟨w.heap.size, 1, none⟩) (.inr (Nat.le_refl _)) _)⟩
theorem resp_kinds : ∀ n : Nat, n < 6 → respT.m0 n = if n = 0 ∨ n = 4 then 268435455 else 0 := by decide
theorem resp_near (n : Nat) (v : Int) (hn : n < 6) (hv : 0 ≤ v ∧ v ≤ 268435455) : respT.rightB n v 0 0 = decide (v = 0 ∨ n = 0 ∨ n = 4) := by
  have h0 := resp_kinds n hn
  obtain ⟨_, h1, h2⟩ := most_resp n hn
  have hl : respT.length = 6 := rfl
  have e1 : ((n : Int)).toNat = n := by omega
  unfold Tab.rightB allowB okB
  rw [e1, h0, h1, h2, Bool.eq_iff_iff]
  simp only [Bool.and_eq_true, decide_eq_true_eq]
  rw [hl]
  constructor
  · rintro ⟨_, ⟨p0, p1⟩, p2⟩
    split at p0 <;> omega
  · intro p0
    refine ⟨by omega, ⟨?_, by omega⟩, by omega⟩
    split <;> omega
theorem resp_far {k v : Int} (h : ¬ ((0 ≤ k ∧ k ≤ 5) ∧ (0 ≤ v ∧ v ≤ 268435455))) : respT.rightB k v 0 0 = false := by
  cases e : respT.rightB k v 0 0 with
  | false => rfl
  | true => exact absurd (resp_range e) h
set_option maxRecDepth 100000 in
set_option maxHeartbeats 2000000 in
theorem refRightResp_any (k v : Int) (w : World) :
    Calls Tryd.prog 44 #[.agg #[.int .i64 k, .int .i64 v]] w fun e w' => e = .returned (.bool (respT.rightB k v 0 0)) ∧ Frm.Turn [] w w' := by
  by_cases h : (0 ≤ k ∧ k ≤ 5) ∧ (0 ≤ v ∧ v ≤ 268435455)
  · obtain ⟨⟨k0, k1⟩, v0, v1⟩ := h
    have hri := resp_near k.toNat v (by omega) ⟨v0, v1⟩
    rw [show ((k.toNat : Nat) : Int) = k from by omega] at hri
    have HX : ∀ r : Bool, (r = true ↔ (v = 0 ∨ k = 0 ∨ k = 4)) → Hid (respT.rightB k v 0 0 = r) := by
      intro r hr
      refine Lib.hid ?_
      rw [hri, Bool.eq_iff_iff, hr]
      simp only [decide_eq_true_eq]
      omega
    clear hri
    have h' : v = 0 ∨ (v ≠ 0 ∧ k = 0) ∨ (v ≠ 0 ∧ k ≠ 0 ∧ k = 4) ∨ (v ≠ 0 ∧ k ≠ 0 ∧ k ≠ 4) := by omega
    rcases h' with rfl | ⟨h1, rfl⟩ | ⟨h1, h2, rfl⟩ | ⟨h1, h2, h3⟩
    · have HR := HX true (by simp)
      clear HX
      go_enter Tryd.func44, Tryd.ntmps44
      go_wp2
      go_ret
      exact ⟨by rw [HR.out]; rfl, (Frm.Turn.refl [] w).alloc _⟩
    · have HR := HX true (by simp)
      have q1 : (v == 0) = false := by simpa using h1
      clear HX
      go_enter Tryd.func44, Tryd.ntmps44
      go_wp2
      go_ret
      exact ⟨by rw [HR.out]; rfl, (Frm.Turn.refl [] w).alloc _⟩
    · have HR := HX true (by simp)
      have q1 : (v == 0) = false := by simpa using h1
      clear HX
      go_enter Tryd.func44, Tryd.ntmps44
      go_wp2
      go_ret
      exact ⟨by rw [HR.out]; rfl, (Frm.Turn.refl [] w).alloc _⟩
    · have HR := HX false (by simp; omega)
      have q1 : (v == 0) = false := by simpa using h1
      have q2 : (k == 0) = false := by simpa using h2
      have q3 : (k == 4) = false := by simpa using h3
      clear HX
      go_enter Tryd.func44, Tryd.ntmps44
      go_wp2
      go_ret
      exact ⟨by rw [HR.out]; rfl, (Frm.Turn.refl [] w).alloc _⟩
  · have HR := Lib.hid (resp_far h)
    have h' : k < 0 ∨ (0 ≤ k ∧ 5 < k) ∨ (0 ≤ k ∧ k ≤ 5 ∧ v < 0) ∨ (0 ≤ k ∧ k ≤ 5 ∧ 0 ≤ v ∧ 268435455 < v) := by omega
    clear h
    rcases h' with h1 | ⟨h1, h2⟩ | ⟨h1, h2, h3⟩ | ⟨h1, h2, h3, h4⟩
    all_goals
      go_enter Tryd.func44, Tryd.ntmps44
      go_wp2
      go_ret
      exact ⟨by rw [HR.out]; rfl, (Frm.Turn.refl [] w).alloc _⟩
theorem vOk_far (n : Int) (h : 4294967295 < n) : vOk n = false := resp_far (by unfold vC; omega)
set_option maxRecDepth 100000 in
set_option maxHeartbeats 2000000 in
theorem refUnpackResp_any (n : Int) (w : World) (hn : W64 n) :
    Calls Tryd.prog 30 #[.int .u64 n] w fun e w' => e = .returned (.tuple #[vAns n, .bool (vOk n)]) ∧ Frm.Turn [] w w' := by
  obtain ⟨n0, n1⟩ := hn
  by_cases hf : 4294967295 < n
  · have hr := vOk_far n hf
    have HX : Hid (vAns n = .agg #[.int .i64 0, .int .i64 0]) := Lib.hid (by unfold vAns; rw [hr]; rfl)
    have HO := Lib.hid hr
    have HT1 := Lib.hid ((Frm.Turn.refl [] w).alloc (.cells #[.int .i64 0, .int .i64 0] 69))
    clear hr
    go_enter Tryd.func30, Tryd.ntmps30
    go_wp2
    rw [HX.out, HO.out]
    refine bodyPost_ret (v := .tuple #[.agg #[.int .i64 0, .int .i64 0], .bool false]) (by simp [results, Tryd.results30, go_sem]) rfl ⟨rfl, ?_⟩
    first | exact HT1.out | exact ((HT1.out.setCell (p := ⟨w.heap.size, 0, none⟩) (.inr (Nat.le_refl _)) _).setCell (p := ⟨w.heap.size, 1, none⟩) (.inr (Nat.le_refl _)) _)
  · have HT := Lib.hid (((Frm.Turn.refl [] w).alloc (.cells #[.int .i64 0, .int .i64 0] 69)).alloc (.cells #[.int .i64 (n / 268435456), .int .i64 (n % 268435456)] 69))
    have HB0 := Lib.hid (heap_below w (.cells #[.int .i64 0, .int .i64 0] 69) (.cells #[.int .i64 (n / 268435456), .int .i64 (n % 268435456)] 69))
    have HB1 := Lib.hid (heap_last w (.cells #[.int .i64 0, .int .i64 0] 69) (.cells #[.int .i64 (n / 268435456), .int .i64 (n % 268435456)] 69))
    have HR := Lib.hid (refRightResp_any (n / 268435456) (n % 268435456) ((w.alloc (.cells #[.int .i64 0, .int .i64 0] 69)).alloc (.cells #[.int .i64 (n / 268435456), .int .i64 (n % 268435456)] 69)))
    have hle : n ≤ 4294967295 := by omega
    clear hf
    cases hr : vOk n
    · have HX : Hid (vAns n = .agg #[.int .i64 0, .int .i64 0]) := Lib.hid (by unfold vAns; rw [hr]; rfl)
      have hr' : respT.rightB (n / 268435456) (n % 268435456) 0 0 = false := hr
      rw [hr'] at HR
      clear hr hr'
      go_enter Tryd.func30, Tryd.ntmps30
      go_wp2_with (go_at_call 44; (with_reducible refine (HR.out).mono ?_); rintro e w1 ⟨rfl, hT⟩; obtain ⟨⟨e0, e1⟩, f0, f1⟩ := blk2 (hT.keep HB0.out (by simp)); obtain ⟨⟨g0, g1⟩, i0, i1⟩ := blk2 (hT.keep HB1.out (by simp)); have HT1 := Lib.hid ((HT.out).trans hT (by simp)); clear hT)
      rw [HX.out]
      exact bodyPost_ret (v := .tuple #[.agg #[.int .i64 0, .int .i64 0], .bool false]) (by simp [results, Tryd.results30, go_sem, e0, e1]) rfl ⟨rfl, ((HT1.out.setCell (p := ⟨w.heap.size, 0, none⟩) (.inr (Nat.le_refl _)) _).setCell (p := ⟨w.heap.size, 1, none⟩) (.inr (Nat.le_refl _)) _)⟩
    · have HX : Hid (vAns n = .agg #[.int .i64 (n / 268435456), .int .i64 (n % 268435456)]) := Lib.hid (by unfold vAns; rw [hr]; rfl)
      have hr' : respT.rightB (n / 268435456) (n % 268435456) 0 0 = true := hr
      rw [hr'] at HR
      clear hr hr'
      go_enter Tryd.func30, Tryd.ntmps30
      go_wp2_with (go_at_call 44; (with_reducible refine (HR.out).mono ?_); rintro e w1 ⟨rfl, hT⟩; obtain ⟨⟨e0, e1⟩, f0, f1⟩ := blk2 (hT.keep HB0.out (by simp)); obtain ⟨⟨g0, g1⟩, i0, i1⟩ := blk2 (hT.keep HB1.out (by simp)); have HT1 := Lib.hid ((HT.out).trans hT (by simp)); clear hT)
      rw [HX.out]
      exact bodyPost_ret (v := .tuple #[.agg #[.int .i64 (n / 268435456), .int .i64 (n % 268435456)], .bool true]) (by simp [results, Tryd.results30, go_sem, e0, e1]) rfl ⟨rfl, ((HT1.out.setCell (p := ⟨w.heap.size, 0, none⟩) (.inr (Nat.le_refl _)) _).setCell (p := ⟨w.heap.size, 1, none⟩) (.inr (Nat.le_refl _)) _)⟩
end Ops
end Go.Proofs.YtmjdcpcndggflaaDoor
