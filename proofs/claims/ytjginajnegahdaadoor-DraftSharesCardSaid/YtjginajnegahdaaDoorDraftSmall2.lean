/- The small calls of layer 8: words of values, counts, right versions, responses. -/
import Derived.Test.YtjginajnegahdaaDoorDraftSmall
import Derived.Deep.RegionHeld3
set_option linter.unusedVariables false
set_option linter.unusedSimpArgs false
namespace Go.Proofs.YtjginajnegahdaaDoor
namespace Drf
open Go.RowKit Go.Maps

abbrev rv (r : Rs) : Value := .agg #[.int .i64 r.1, .int .i64 r.2]
theorem wordOf_any (a : Int) (h0 : 0 ≤ a) (h1 : a ≤ 1023) (w : World) : Calls Tryd.prog 59 #[.int .i64 a] w fun e w' => e = .returned (.int .u64 (a + 1)) ∧ w = w' := by
  go_enter Tryd.func59, Tryd.ntmps59
  go_wp2
  go_ret
  exact ⟨rfl, rfl⟩
theorem valueOf_any (x : Int) (h0 : 0 ≤ x) (h1 : x ≤ 1024) (w : World) : Calls Tryd.prog 60 #[.int .u64 x] w fun e w' => e = .returned (.int .i64 (x - 1)) ∧ w = w' := by
  go_enter Tryd.func60, Tryd.ntmps60
  go_wp2
  go_ret
  exact ⟨rfl, rfl⟩
theorem count_any (x : Int) (w : World) : Calls Tryd.prog 62 #[.int .u64 x] w fun e w' => e = .returned (.int .i64 (cnt x)) ∧ w = w' := by
  unfold cnt
  by_cases h : x = 0
  · rw [if_pos h]
    have hb : (x == 0) = true := by simpa using h
    clear h
    go_enter Tryd.func62, Tryd.ntmps62
    go_wp2
    go_ret
    exact ⟨rfl, rfl⟩
  · rw [if_neg h]
    have hb : (x == 0) = false := by simpa using h
    go_enter Tryd.func62, Tryd.ntmps62
    go_wp2
    go_ret
    exact ⟨rfl, rfl⟩
theorem done_any (n : Int) (w : World) : Calls Tryd.prog 41 #[.int .i64 n] w fun e w' => e = .returned (.agg #[.int .i64 0, .int .i64 n]) ∧ Frm.Turn [] w w' := by
  go_enter Tryd.func41, Tryd.ntmps41
  go_wp2
  exact bodyPost_ret (v := rv (0, n)) (by simp [results, Tryd.results41, go_sem, rv]) rfl ⟨rfl, (Frm.Turn.refl [] w).alloc _⟩
theorem none_any (w : World) : Calls Tryd.prog 38 #[] w fun e w' => e = .returned (.agg #[.int .i64 1, .int .i64 0]) ∧ Frm.Turn [] w w' := by
  go_enter Tryd.func38, Tryd.ntmps38
  go_wp2
  exact bodyPost_ret (v := rv (1, 0)) (by simp [results, Tryd.results38, go_sem, rv]) rfl ⟨rfl, (Frm.Turn.refl [] w).alloc _⟩
def isLenB (n : Int) : Bool := decide (0 ≤ n ∧ n ≤ 256)
theorem isLen_any (n : Int) (w : World) : Calls Tryd.prog 46 #[.int .i64 n] w fun e w' => e = .returned (.bool (isLenB n)) ∧ w = w' := by
  unfold isLenB
  by_cases h0 : 0 ≤ n
  · by_cases h1 : n ≤ 256
    · rw [decide_eq_true (show 0 ≤ n ∧ n ≤ 256 from ⟨h0, h1⟩)]
      have t0 : decide (0 ≤ n) = true := by simpa using h0
      have t1 : decide (n ≤ 256) = true := by simpa using h1
      go_enter Tryd.func46, Tryd.ntmps46
      go_wp2
      go_ret
      exact ⟨rfl, rfl⟩
    · rw [decide_eq_false (show ¬ (0 ≤ n ∧ n ≤ 256) from fun h => h1 h.2)]
      have t0 : decide (0 ≤ n) = true := by simpa using h0
      have t1 : decide (n ≤ 256) = false := by simpa using h1
      go_enter Tryd.func46, Tryd.ntmps46
      go_wp2
      go_ret
      exact ⟨rfl, rfl⟩
  · rw [decide_eq_false (show ¬ (0 ≤ n ∧ n ≤ 256) from fun h => h0 h.1)]
    have t0 : decide (0 ≤ n) = false := by simpa using h0
    go_enter Tryd.func46, Tryd.ntmps46
    go_wp2
    go_ret
    exact ⟨rfl, rfl⟩
abbrev opV (c k a b : Int) : Value := .agg #[.int .i64 c, .int .i64 k, .int .i64 a, .int .i64 b]
theorem doesNew_any (c k a b : Int) (h0 : 0 ≤ a) (h1 : a ≤ 1023) (w : World) : Calls Tryd.prog 69 #[.agg #[.int .i64 c, .int .i64 k, .int .i64 a, .int .i64 b]] w fun e w' => e = .returned (.int .u64 (if c = 5 ∨ c = 10 then a + 1 else 0)) ∧ Frm.Turn [] w w' := by
  have HT := Lib.hid (fun o => (Frm.Turn.refl [] w).alloc o)
  by_cases h5 : c = 5
  · rw [if_pos (.inl h5)]
    have t5 : (c == 5) = true := by simpa using h5
    clear h5
    go_enter Tryd.func69, Tryd.ntmps69
    go_wp2_with (go_at_call 59; (with_reducible refine (wordOf_any a h0 h1 _).mono ?_); rintro e w1 ⟨rfl, rfl⟩)
    go_ret
    exact ⟨rfl, HT.out _⟩
  · by_cases h10 : c = 10
    · rw [if_pos (.inr h10)]
      have t5 : (c == 5) = false := by simpa using h5
      have t10 : (c == 10) = true := by simpa using h10
      clear h10 h5
      go_enter Tryd.func69, Tryd.ntmps69
      go_wp2_with (go_at_call 59; (with_reducible refine (wordOf_any a h0 h1 _).mono ?_); rintro e w1 ⟨rfl, rfl⟩)
      go_ret
      exact ⟨rfl, HT.out _⟩
    · rw [if_neg (by omega)]
      have t5 : (c == 5) = false := by simpa using h5
      have t10 : (c == 10) = false := by simpa using h10
      go_enter Tryd.func69, Tryd.ntmps69
      go_wp2
      go_ret
      exact ⟨rfl, HT.out _⟩
end Drf
end Go.Proofs.YtjginajnegahdaaDoor
