/- Which operations are right: the program's answer (of stage 5's texts, for a seat without the library's reading of numbers). -/
import Derived.Test.YtjginajnegahdaaDoorOpsTabs
import Derived.Test.YtjginajnegahdaaDoorOpsAllows
import Derived.StillTailTactics
import Derived.Deep.QuietTactic
import Derived.BigQuiet
set_option linter.unusedVariables false
set_option linter.unusedSimpArgs false
namespace Go.Proofs.YtjginajnegahdaaDoor
namespace Ops
open Go.RowKit Go.Lib

/-- What is known of the world. -/
structure Kn (w : World) : Prop where
  ops : TabCells opT 0 w

theorem TabCells.below {T : Tab} {g : Nat} {w w' : World} (h : TabCells T g w) (hb : Below w.heap.size w w') : TabCells T g w' := by
  intro c hc
  obtain ⟨h0, h1, h2, h3⟩ := h c hc
  exact ⟨(hb.cell (World.block_lt_of_cell? w _ h0)).trans h0, (hb.cell (World.block_lt_of_cell? w _ h1)).trans h1, (hb.cell (World.block_lt_of_cell? w _ h2)).trans h2, (hb.cell (World.block_lt_of_cell? w _ h3)).trans h3⟩
theorem Kn.below {w w' : World} (h : Kn w) (hb : Below w.heap.size w w') : Kn w' := ⟨h.1.below hb⟩
theorem Kn.turn {w w' : World} (h : Kn w) (hT : Frm.Turn [] w w') : Kn w' := h.below (hT.below (Nat.le_refl _) (by simp))
/-- A region that reads, and then does one thing: its reads in the text's order. -/
theorem wp_tail {P : Program} {id : Nat} {Q : Exit → Act → World → Prop} {a : Act} {w : World} {l : List Oper} (n : Nat) (hm : P.follows .mixedOrders = true) (hB : Region.lexTailB .any l.toArray n = true)
    (h : wpStill P l.toArray w.drew (fun a' => wpList P l.toArray Q (l.drop n) a' w.drew) (l.take n) a) : (Code.region id l.toArray true).wp P Q a w := wp_region_still_tail n hm hB h


set_option maxRecDepth 100000 in
set_option maxHeartbeats 2000000 in
theorem right_in (n : Nat) (k a b : Int) (w : World) (hk : Kn w) (hn : n < 15) :
    Calls Tryd.prog 37 #[.agg #[.int .i64 n, .int .i64 k, .int .i64 a, .int .i64 b]] w fun e w' => e = .returned (.bool (opT.rightB n k a b)) ∧ Frm.Turn [] w w' := by
  obtain ⟨h0, h1, h2, h3⟩ := (hk.turn ((Frm.Turn.refl [] w).alloc (.cells #[.int .i64 n, .int .i64 k, .int .i64 a, .int .i64 b] 44))).ops n hn
  have e0 : 4 * n = n * 4 := by omega
  rw [e0] at h0 h1 h2 h3
  clear hk e0
  have HT := Lib.hid (fun o => (Frm.Turn.refl [] w).alloc o)
  go_enter Tryd.func37, Tryd.ntmps37
  go_wp2
  have t1 : decide ((0 : Int) ≤ n) = true := by simp
  have t3 : (n : Int) < 15 := by omega
  have HA := Lib.hid (allows_any ⟨(opT.nm n).toArray⟩ (opT.m0 n) (opT.m1 n) (opT.m2 n) k a b)
  have HR : Hid (opT.rightB n k a b = allowB (opT.m0 n) (opT.m1 n) (opT.m2 n) k a b) := by
    refine Lib.hid ?_
    unfold Tab.rightB
    rw [decide_eq_true (show (0 : Int) ≤ n ∧ (n : Int) < opT.length from ⟨by omega, by show (n : Int) < 15; omega⟩)]
    rfl
  refine wp_tail 20 (by kernel_rfl) (by kernel_rfl) ?_
  simp only [List.take_succ_cons, List.take_zero, List.drop_succ_cons, List.drop_zero]
  iterate 20 still_step
  refine wpStill_nil ?_
  go_wp2_with (go_at_call 56; (with_reducible refine (HA.out _).mono ?_); rintro e w1 ⟨rfl, hT⟩; have HT1 := Lib.hid (((HT.out _).drew).trans hT (by simp)); clear hT)
  go_ret
  exact ⟨by rw [HR.out]; rfl, HT1.out⟩

set_option maxRecDepth 100000 in
set_option maxHeartbeats 2000000 in
theorem right_out (c k a b : Int) (w : World) (hc : c < 0 ∨ 15 ≤ c) :
    Calls Tryd.prog 37 #[.agg #[.int .i64 c, .int .i64 k, .int .i64 a, .int .i64 b]] w fun e w' => e = .returned (.bool (opT.rightB c k a b)) ∧ Frm.Turn [] w w' := by
  have HR : Hid (opT.rightB c k a b = false) := by
    refine Lib.hid ?_
    unfold Tab.rightB
    rw [decide_eq_false (show ¬ ((0 : Int) ≤ c ∧ c < opT.length) from fun h => by have h2 : c < 15 := h.2; omega)]
    rfl
  have HT := Lib.hid (fun o => (Frm.Turn.refl [] w).alloc o)
  rcases Int.lt_or_le c 0 with h | h
  · have t1 : decide ((0 : Int) ≤ c) = false := by simpa using h
    clear hc
    go_enter Tryd.func37, Tryd.ntmps37
    go_wp2
    go_quiet (fail)
    go_wp2
    go_ret
    exact ⟨by rw [HR.out]; rfl, (HT.out _).drewN _⟩
  · have t1 : decide ((0 : Int) ≤ c) = true := by simpa using h
    have t2 : decide (c < 15) = false := by simp; omega
    clear hc
    go_enter Tryd.func37, Tryd.ntmps37
    go_wp2
    go_quiet (fail)
    go_wp2
    go_ret
    exact ⟨by rw [HR.out]; rfl, (HT.out _).drewN _⟩

theorem right_any (c k a b : Int) (w : World) (hk : Kn w) :
    Calls Tryd.prog 37 #[.agg #[.int .i64 c, .int .i64 k, .int .i64 a, .int .i64 b]] w fun e w' => e = .returned (.bool (opT.rightB c k a b)) ∧ Frm.Turn [] w w' := by
  by_cases h : c < 0 ∨ 15 ≤ c
  · exact right_out c k a b w h
  · obtain ⟨n, rfl⟩ : ∃ n : Nat, c = n := ⟨c.toNat, by omega⟩
    exact right_in n k a b w hk (by omega)

end Ops
end Go.Proofs.YtjginajnegahdaaDoor
