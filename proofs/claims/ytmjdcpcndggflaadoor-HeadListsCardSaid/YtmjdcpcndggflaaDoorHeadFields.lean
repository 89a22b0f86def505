/- Handles and notes: the calls of layer 1 that layer 9 reaches. -/
import Derived.Test.YtmjdcpcndggflaaDoorRows
import Derived.Test.YtmjdcpcndggflaaDoorFieldsPlain
import Derived.WalkKit
import Derived.ProofKit
import Derived.OpenShut
import Derived.Lib.Hide
import Derived.Deep.QuietTactic
import Derived.BigQuiet
set_option linter.unusedVariables false
set_option linter.unusedSimpArgs false
namespace Go.Proofs.YtmjdcpcndggflaaDoor
namespace Fld
open Go.RowKit
theorem block_any (a : Int) (w : World) (h : W64 a) :
    Calls Tryd.prog 55 #[.int .u64 a] w fun e w' => e = .returned (.int .u64 (a % 65536)) ∧ w = w' := by
  have hm := and_mask16 a h
  obtain ⟨h0, h1⟩ := h
  go_enter Tryd.func55, Tryd.ntmps55
  go_wp2
  go_ret
  exact ⟨rfl, rfl⟩
theorem birth_any (a : Int) (w : World) (h : W64 a) :
    Calls Tryd.prog 54 #[.int .u64 a] w fun e w' => e = .returned (.int .u64 (a / 65536)) ∧ w = w' := by
  obtain ⟨h0, h1⟩ := h
  go_enter Tryd.func54, Tryd.ntmps54
  go_wp2
  go_ret
  exact ⟨rfl, rfl⟩
theorem body_any (a : Int) (w : World) (h : W64 a) :
    Calls Tryd.prog 43 #[.int .u64 a] w fun e w' => e = .returned (.int .u64 (a % 4294967296)) ∧ w = w' := by
  have hm := and_mask32 a h
  obtain ⟨h0, h1⟩ := h
  go_enter Tryd.func43, Tryd.ntmps43
  go_wp2
  go_ret
  exact ⟨rfl, rfl⟩
theorem handle_yes (a b : Int) (w : World) (h : hOk a b = true) :
    Calls Tryd.prog 37 #[.int .u64 a, .int .u64 b] w fun e w' => e = .returned (.tuple #[.int .u64 (a * 65536 + b), .bool true]) ∧ w = w' := by
  simp [hOk] at h
  obtain ⟨h1, h2, h3, h4⟩ := h
  have hj := or_join16 a b (by omega) (by omega) (by omega) (by omega)
  go_enter Tryd.func37, Tryd.ntmps37
  go_wp2
  go_ret2
  exact ⟨rfl, rfl⟩
theorem handle_no (a b : Int) (w : World) (ha : W64 a) (hb : W64 b) (h : hOk a b = false) :
    Calls Tryd.prog 37 #[.int .u64 a, .int .u64 b] w fun e w' => e = .returned (.tuple #[.int .u64 0, .bool false]) ∧ w = w' := by
  obtain ⟨a0, a1⟩ := ha
  obtain ⟨b0, b1⟩ := hb
  have h' : a < 1 ∨ (1 ≤ a ∧ 268435455 < a) ∨ (1 ≤ a ∧ a ≤ 268435455 ∧ b < 1) ∨ (1 ≤ a ∧ a ≤ 268435455 ∧ 1 ≤ b ∧ 65535 < b) := by
    simp [hOk] at h; omega
  clear h
  rcases h' with h | ⟨h1, h2⟩ | ⟨h1, h2, h3⟩ | ⟨h1, h2, h3, h4⟩
  all_goals
    go_enter Tryd.func37, Tryd.ntmps37
    go_wp2
    go_ret2
    exact ⟨rfl, rfl⟩
theorem handle_any (a b : Int) (w : World) (ha : W64 a) (hb : W64 b) :
    Calls Tryd.prog 37 #[.int .u64 a, .int .u64 b] w fun e w' => e = .returned (.tuple #[.int .u64 (hVal a b), .bool (hOk a b)]) ∧ w = w' := by
  unfold hVal
  cases h : hOk a b
  · simpa using handle_no a b w ha hb h
  · simpa using handle_yes a b w h
theorem w64_div (a n : Int) (h : W64 a) (hn : 1 ≤ n) : W64 (a / n) := by
  obtain ⟨h0, h1⟩ := h
  refine ⟨Int.ediv_nonneg h0 (by omega), Int.le_trans (Int.ediv_le_self n h0) h1⟩
theorem w64_mod (a n : Int) (h : W64 a) (hn : 1 ≤ n) : W64 (a % n) := by
  obtain ⟨h0, h1⟩ := h
  refine ⟨Int.emod_nonneg _ (by omega), ?_⟩
  rcases Int.lt_or_le a n with hlt | hle
  · rw [Int.emod_eq_of_lt h0 hlt]; exact h1
  · have := Int.emod_lt_of_pos a (show 0 < n by omega); omega
theorem right_any (a : Int) (w : World) (h : W64 a) :
    Calls Tryd.prog 50 #[.int .u64 a] w fun e w' => e = .returned (.bool (rightB a)) ∧ w = w' := by
  have d1 := w64_div a 65536 h (by omega)
  have d2 := w64_mod a 65536 h (by omega)
  go_enter Tryd.func50, Tryd.ntmps50
  go_wp2_with (first
    | (go_at_call 54; refine (birth_any _ _ h).mono ?_; rintro e w' ⟨rfl, rfl⟩)
    | (go_at_call 55; refine (block_any _ _ h).mono ?_; rintro e w' ⟨rfl, rfl⟩)
    | (go_at_call 37; refine (handle_any _ _ _ d1 d2).mono ?_; rintro e w' ⟨rfl, rfl⟩))
  go_ret
  exact ⟨rfl, rfl⟩
theorem right_is (a : Int) (w : World) (h : W64 a) (b : Bool) (hb : rightB a = b) :
    Calls Tryd.prog 50 #[.int .u64 a] w fun e w' => e = .returned (.bool b) ∧ w = w' := by
  subst hb; exact right_any a w h
theorem refhandle_any (a b : Int) (w : World) (ha : W64 a) (hb : W64 b) :
    Calls Tryd.prog 46 #[.int .u64 a, .int .u64 b] w fun e w' => e = .returned (.int .u64 (hVal a b)) ∧ w = w' := by
  obtain ⟨a0, a1⟩ := ha
  obtain ⟨b0, b1⟩ := hb
  unfold hVal
  cases h : hOk a b
  · have h' : a < 1 ∨ (1 ≤ a ∧ 268435455 < a) ∨ (1 ≤ a ∧ a ≤ 268435455 ∧ b < 1) ∨ (1 ≤ a ∧ a ≤ 268435455 ∧ 1 ≤ b ∧ 65535 < b) := by
      simp [hOk] at h; omega
    clear h
    rcases h' with h | ⟨h1, h2⟩ | ⟨h1, h2, h3⟩ | ⟨h1, h2, h3, h4⟩
    all_goals
      go_enter Tryd.func46, Tryd.ntmps46
      go_wp2
      go_ret
      exact ⟨rfl, rfl⟩
  · simp [hOk] at h
    obtain ⟨h1, h2, h3, h4⟩ := h
    go_enter Tryd.func46, Tryd.ntmps46
    go_wp2
    go_ret
    exact ⟨rfl, rfl⟩
theorem refright_any (a : Int) (w : World) (h : W64 a) :
    Calls Tryd.prog 41 #[.int .u64 a] w fun e w' => e = .returned (.bool (rightB a)) ∧ w = w' := by
  have b0 : 0 ≤ a % 65536 := Int.emod_nonneg _ (by omega)
  have b1 : a % 65536 < 65536 := Int.emod_lt_of_pos _ (by omega)
  obtain ⟨h0, h1⟩ := h
  cases hb : rightB a
  · have h' : a / 65536 < 1 ∨ (1 ≤ a / 65536 ∧ 268435455 < a / 65536) ∨ (1 ≤ a / 65536 ∧ a / 65536 ≤ 268435455 ∧ a % 65536 < 1) := by
      simp [rightB, hOk] at hb; omega
    clear hb
    rcases h' with h | ⟨h2, h3⟩ | ⟨h2, h3, h4⟩
    · go_enter Tryd.func41, Tryd.ntmps41
      go_wp2
      go_ret
      exact ⟨rfl, rfl⟩
    · go_enter Tryd.func41, Tryd.ntmps41
      go_wp2
      go_ret
      exact ⟨rfl, rfl⟩
    · have hd : decide (1 ≤ a % 65536) = false := by simp; omega
      go_enter Tryd.func41, Tryd.ntmps41
      go_wp2
      go_ret
      exact ⟨rfl, rfl⟩
  · simp [rightB, hOk] at hb
    obtain ⟨h2, h3, h4, h5⟩ := hb
    go_enter Tryd.func41, Tryd.ntmps41
    go_wp2
    go_ret
    exact ⟨rfl, rfl⟩
theorem refright_is (a : Int) (w : World) (h : W64 a) (b : Bool) (hb : rightB a = b) :
    Calls Tryd.prog 41 #[.int .u64 a] w fun e w' => e = .returned (.bool b) ∧ w = w' := by
  subst hb; exact refright_any a w h
end Fld
end Go.Proofs.YtmjdcpcndggflaaDoor
