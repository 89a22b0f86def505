/- What each function of layer 1, and each of the document's own answers, answers for all words: contracts of the calls, at the program. -/
import Derived.Test.YthmcfkgeacjhlaaRows
import Derived.Test.YthmcfkgeacjhlaaFieldsPlain
import Derived.WalkKit
import Derived.ProofKit
import Derived.OpenShut
import Derived.Lib.Hide
namespace Go.Proofs.Ythmcfkgeacjhlaa
namespace Fld
open Go.RowKit

theorem block_any (a : Int) (w : World) (h : W64 a) :
    Calls Try.prog 17 #[.int .u64 a] w fun e w' => e = .returned (.int .u64 (a % 65536)) ∧ w = w' := by
  have hm := and_mask16 a h
  obtain ⟨h0, h1⟩ := h
  go_enter Try.func17, Try.ntmps17
  go_wp2
  go_ret
  exact ⟨rfl, rfl⟩

theorem birth_any (a : Int) (w : World) (h : W64 a) :
    Calls Try.prog 18 #[.int .u64 a] w fun e w' => e = .returned (.int .u64 (a / 65536)) ∧ w = w' := by
  obtain ⟨h0, h1⟩ := h
  go_enter Try.func18, Try.ntmps18
  go_wp2
  go_ret
  exact ⟨rfl, rfl⟩

theorem turn_any (a : Int) (w : World) (h : W64 a) :
    Calls Try.prog 19 #[.int .u64 a] w fun e w' => e = .returned (.int .u64 (a % 1048576)) ∧ w = w' := by
  have hm := and_mask20 a h
  obtain ⟨h0, h1⟩ := h
  go_enter Try.func19, Try.ntmps19
  go_wp2
  go_ret
  exact ⟨rfl, rfl⟩

theorem top_any (a : Int) (w : World) (h : W64 a) :
    Calls Try.prog 20 #[.int .u64 a] w fun e w' => e = .returned (.int .u64 (a / 1048576)) ∧ w = w' := by
  obtain ⟨h0, h1⟩ := h
  go_enter Try.func20, Try.ntmps20
  go_wp2
  go_ret
  exact ⟨rfl, rfl⟩

theorem body_any (a : Int) (w : World) (h : W64 a) :
    Calls Try.prog 21 #[.int .u64 a] w fun e w' => e = .returned (.int .u64 (a % 4294967296)) ∧ w = w' := by
  have hm := and_mask32 a h
  obtain ⟨h0, h1⟩ := h
  go_enter Try.func21, Try.ntmps21
  go_wp2
  go_ret
  exact ⟨rfl, rfl⟩

theorem seq_any (a : Int) (w : World) (h : W64 a) :
    Calls Try.prog 22 #[.int .u64 a] w fun e w' => e = .returned (.int .u64 (a / 4294967296)) ∧ w = w' := by
  obtain ⟨h0, h1⟩ := h
  go_enter Try.func22, Try.ntmps22
  go_wp2
  go_ret
  exact ⟨rfl, rfl⟩

theorem handle_yes (a b : Int) (w : World) (h : hOk a b = true) :
    Calls Try.prog 8 #[.int .u64 a, .int .u64 b] w fun e w' => e = .returned (.tuple #[.int .u64 (a * 65536 + b), .bool true]) ∧ w = w' := by
  simp [hOk] at h
  obtain ⟨h1, h2, h3, h4⟩ := h
  have hj := or_join16 a b (by omega) (by omega) (by omega) (by omega)
  go_enter Try.func8, Try.ntmps8
  go_wp2
  go_ret2
  exact ⟨rfl, rfl⟩

theorem handle_no (a b : Int) (w : World) (ha : W64 a) (hb : W64 b) (h : hOk a b = false) :
    Calls Try.prog 8 #[.int .u64 a, .int .u64 b] w fun e w' => e = .returned (.tuple #[.int .u64 0, .bool false]) ∧ w = w' := by
  obtain ⟨a0, a1⟩ := ha
  obtain ⟨b0, b1⟩ := hb
  have h' : a < 1 ∨ (1 ≤ a ∧ 268435455 < a) ∨ (1 ≤ a ∧ a ≤ 268435455 ∧ b < 1) ∨ (1 ≤ a ∧ a ≤ 268435455 ∧ 1 ≤ b ∧ 65535 < b) := by
    simp [hOk] at h; omega
  clear h
  rcases h' with h | ⟨h1, h2⟩ | ⟨h1, h2, h3⟩ | ⟨h1, h2, h3, h4⟩
  all_goals
    go_enter Try.func8, Try.ntmps8
    go_wp2
    go_ret2
    exact ⟨rfl, rfl⟩

theorem handle_any (a b : Int) (w : World) (ha : W64 a) (hb : W64 b) :
    Calls Try.prog 8 #[.int .u64 a, .int .u64 b] w fun e w' => e = .returned (.tuple #[.int .u64 (hVal a b), .bool (hOk a b)]) ∧ w = w' := by
  unfold hVal
  cases h : hOk a b
  · simpa using handle_no a b w ha hb h
  · simpa using handle_yes a b w h

theorem w64_div (a n : Int) (h : W64 a) (hn : 1 ≤ n) : W64 (a / n) := by
  obtain ⟨h0, h1⟩ := h
  refine ⟨Int.ediv_nonneg h0 (by omega), Int.le_trans (Int.ediv_le_self n h0) h1⟩
theorem w64_mod (a n : Int) (h : W64 a) (hn : 1 ≤ n) : W64 (a % n) := by
  obtain ⟨h0, h1⟩ := h
  refine ⟨Int.emod_nonneg _ (by omega), ?_⟩
  rcases Int.lt_or_le a n with hlt | hle
  · rw [Int.emod_eq_of_lt h0 hlt]; exact h1
  · have := Int.emod_lt_of_pos a (show 0 < n by omega); omega

theorem right_any (a : Int) (w : World) (h : W64 a) :
    Calls Try.prog 14 #[.int .u64 a] w fun e w' => e = .returned (.bool (rightB a)) ∧ w = w' := by
  have d1 := w64_div a 65536 h (by omega)
  have d2 := w64_mod a 65536 h (by omega)
  go_enter Try.func14, Try.ntmps14
  go_wp2_with (first
    | (go_at_call 18; refine (birth_any _ _ h).mono ?_; rintro e w' ⟨rfl, rfl⟩)
    | (go_at_call 17; refine (block_any _ _ h).mono ?_; rintro e w' ⟨rfl, rfl⟩)
    | (go_at_call 8; refine (handle_any _ _ _ d1 d2).mono ?_; rintro e w' ⟨rfl, rfl⟩))
  go_ret
  exact ⟨rfl, rfl⟩

theorem right_is (a : Int) (w : World) (h : W64 a) (b : Bool) (hb : rightB a = b) :
    Calls Try.prog 14 #[.int .u64 a] w fun e w' => e = .returned (.bool b) ∧ w = w' := by
  subst hb; exact right_any a w h

theorem root_yes (a b : Int) (w : World) (ha : W64 a) (hb : W64 b) (h : rOk a b = true) :
    Calls Try.prog 9 #[.int .u64 a, .int .u64 b] w fun e w' => e = .returned (.tuple #[.int .u64 (a * 1048576 + b), .bool true]) ∧ w = w' := by
  have hw := ha
  obtain ⟨a0, a1⟩ := ha
  obtain ⟨b0, b1⟩ := hb
  simp [rOk] at h
  obtain ⟨h1, h2⟩ := h
  by_cases hz : a = 0
  · subst hz
    clear h1
    have hj := or_join20 0 b (by omega) (by omega) (by omega) (by omega)
    simp only [Int.zero_mul, Int.zero_add] at hj ⊢
    go_enter Try.func9, Try.ntmps9
    go_wp2
    go_ret2
    exact ⟨rfl, rfl⟩
  · have hr : rightB a = true := by simpa [hz] using h1
    clear h1
    have hl := rightB_le hr
    have hj := or_join20 a b (by omega) (by omega) (by omega) (by omega)
    have hR := Lib.hid hr
    clear hr
    go_enter Try.func9, Try.ntmps9
    go_wp2_with (go_at_call 14; refine (right_is _ _ hw _ hR.out).mono ?_; rintro e w' ⟨rfl, rfl⟩)
    go_ret2
    exact ⟨rfl, rfl⟩

theorem root_no (a b : Int) (w : World) (ha : W64 a) (hb : W64 b) (h : rOk a b = false) :
    Calls Try.prog 9 #[.int .u64 a, .int .u64 b] w fun e w' => e = .returned (.tuple #[.int .u64 0, .bool false]) ∧ w = w' := by
  have hw := ha
  obtain ⟨a0, a1⟩ := ha
  obtain ⟨b0, b1⟩ := hb
  by_cases hz : a = 0
  · subst hz
    have ht : 1048575 < b := by simp [rOk] at h; omega
    clear h
    go_enter Try.func9, Try.ntmps9
    go_wp2
    go_ret2
    exact ⟨rfl, rfl⟩
  · cases hr : rightB a
    · have hR := Lib.hid hr
      clear hr h
      go_enter Try.func9, Try.ntmps9
      go_wp2_with (go_at_call 14; refine (right_is _ _ hw _ hR.out).mono ?_; rintro e w' ⟨rfl, rfl⟩)
      go_ret2
      exact ⟨rfl, rfl⟩
    · have ht : 1048575 < b := by simp [rOk, hr] at h; omega
      have hR := Lib.hid hr
      clear hr h
      go_enter Try.func9, Try.ntmps9
      go_wp2_with (go_at_call 14; refine (right_is _ _ hw _ hR.out).mono ?_; rintro e w' ⟨rfl, rfl⟩)
      go_ret2
      exact ⟨rfl, rfl⟩

theorem root_any (a b : Int) (w : World) (ha : W64 a) (hb : W64 b) :
    Calls Try.prog 9 #[.int .u64 a, .int .u64 b] w fun e w' => e = .returned (.tuple #[.int .u64 (rVal a b), .bool (rOk a b)]) ∧ w = w' := by
  unfold rVal
  cases h : rOk a b
  · simpa using root_no a b w ha hb h
  · simpa using root_yes a b w ha hb h

theorem next_any (a : Int) (w : World) (h : W64 a) :
    Calls Try.prog 16 #[.int .u64 a] w fun e w' => e = .returned (.tuple #[.int .u64 (rVal (a / 1048576) (a % 1048576 + 1)), .bool (rOk (a / 1048576) (a % 1048576 + 1))]) ∧ w = w' := by
  have d1 := w64_div a 1048576 h (by omega)
  have b0 : 0 ≤ a % 1048576 := Int.emod_nonneg _ (by omega)
  have b1 : a % 1048576 < 1048576 := Int.emod_lt_of_pos _ (by omega)
  have d2 : W64 (a % 1048576 + 1) := ⟨by omega, by omega⟩
  go_enter Try.func16, Try.ntmps16
  go_wp2_with (first
    | (go_at_call 20; refine (top_any _ _ h).mono ?_; rintro e w' ⟨rfl, rfl⟩)
    | (go_at_call 19; refine (turn_any _ _ h).mono ?_; rintro e w' ⟨rfl, rfl⟩)
    | (go_at_call 9; refine (root_any _ _ _ d1 d2).mono ?_; rintro e w' ⟨rfl, rfl⟩))
  go_ret2
  exact ⟨rfl, rfl⟩

theorem note_yes (a b : Int) (w : World) (ha : W64 a) (hb : W64 b) (h : nOk a b = true) :
    Calls Try.prog 10 #[.int .u64 a, .int .u64 b] w fun e w' => e = .returned (.tuple #[.int .u64 (a * 4294967296 + b), .bool true]) ∧ w = w' := by
  obtain ⟨a0, a1⟩ := ha
  obtain ⟨b0, b1⟩ := hb
  simp [nOk] at h
  obtain ⟨h1, h2⟩ := h
  have hj := or_join32 a b (by omega) (by omega) (by omega) (by omega)
  go_enter Try.func10, Try.ntmps10
  go_wp2
  go_ret2
  exact ⟨rfl, rfl⟩

theorem note_no (a b : Int) (w : World) (h : nOk a b = false) :
    Calls Try.prog 10 #[.int .u64 a, .int .u64 b] w fun e w' => e = .returned (.tuple #[.int .u64 0, .bool false]) ∧ w = w' := by
  have h' : 4294967295 < a ∨ (a ≤ 4294967295 ∧ 4294967295 < b) := by simp [nOk] at h; omega
  clear h
  rcases h' with h | ⟨h1, h2⟩
  all_goals
    go_enter Try.func10, Try.ntmps10
    go_wp2
    go_ret2
    exact ⟨rfl, rfl⟩

theorem note_any (a b : Int) (w : World) (ha : W64 a) (hb : W64 b) :
    Calls Try.prog 10 #[.int .u64 a, .int .u64 b] w fun e w' => e = .returned (.tuple #[.int .u64 (nVal a b), .bool (nOk a b)]) ∧ w = w' := by
  unfold nVal
  cases h : nOk a b
  · simpa using note_no a b w h
  · simpa using note_yes a b w ha hb h

/-! The document's own answers. -/
theorem refhandle_any (a b : Int) (w : World) (ha : W64 a) (hb : W64 b) :
    Calls Try.prog 11 #[.int .u64 a, .int .u64 b] w fun e w' => e = .returned (.int .u64 (hVal a b)) ∧ w = w' := by
  obtain ⟨a0, a1⟩ := ha
  obtain ⟨b0, b1⟩ := hb
  unfold hVal
  cases h : hOk a b
  · have h' : a < 1 ∨ (1 ≤ a ∧ 268435455 < a) ∨ (1 ≤ a ∧ a ≤ 268435455 ∧ b < 1) ∨ (1 ≤ a ∧ a ≤ 268435455 ∧ 1 ≤ b ∧ 65535 < b) := by
      simp [hOk] at h; omega
    clear h
    rcases h' with h | ⟨h1, h2⟩ | ⟨h1, h2, h3⟩ | ⟨h1, h2, h3, h4⟩
    all_goals
      go_enter Try.func11, Try.ntmps11
      go_wp2
      go_ret
      exact ⟨rfl, rfl⟩
  · simp [hOk] at h
    obtain ⟨h1, h2, h3, h4⟩ := h
    go_enter Try.func11, Try.ntmps11
    go_wp2
    go_ret
    exact ⟨rfl, rfl⟩
end Fld
end Go.Proofs.Ythmcfkgeacjhlaa
