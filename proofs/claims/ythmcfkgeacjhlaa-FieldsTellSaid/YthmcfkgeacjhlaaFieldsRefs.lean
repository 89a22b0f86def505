/- What the document's own answers are for all words, and the row that stands ahead of each law: contracts of the calls, at the program. -/
import Derived.Test.YthmcfkgeacjhlaaFieldsCalls
namespace Go.Proofs.Ythmcfkgeacjhlaa
namespace Fld
open Go.RowKit

theorem refright_any (a : Int) (w : World) (h : W64 a) :
    Calls Try.prog 15 #[.int .u64 a] w fun e w' => e = .returned (.bool (rightB a)) ∧ w = w' := by
  have b0 : 0 ≤ a % 65536 := Int.emod_nonneg _ (by omega)
  have b1 : a % 65536 < 65536 := Int.emod_lt_of_pos _ (by omega)
  obtain ⟨h0, h1⟩ := h
  cases hb : rightB a
  · have h' : a / 65536 < 1 ∨ (1 ≤ a / 65536 ∧ 268435455 < a / 65536) ∨ (1 ≤ a / 65536 ∧ a / 65536 ≤ 268435455 ∧ a % 65536 < 1) := by
      simp [rightB, hOk] at hb; omega
    clear hb
    rcases h' with h | ⟨h2, h3⟩ | ⟨h2, h3, h4⟩
    · go_enter Try.func15, Try.ntmps15
      go_wp2
      go_ret
      exact ⟨rfl, rfl⟩
    · go_enter Try.func15, Try.ntmps15
      go_wp2
      go_ret
      exact ⟨rfl, rfl⟩
    · have hd : decide (1 ≤ a % 65536) = false := by simp; omega
      go_enter Try.func15, Try.ntmps15
      go_wp2
      go_ret
      exact ⟨rfl, rfl⟩
  · simp [rightB, hOk] at hb
    obtain ⟨h2, h3, h4, h5⟩ := hb
    go_enter Try.func15, Try.ntmps15
    go_wp2
    go_ret
    exact ⟨rfl, rfl⟩

theorem refright_is (a : Int) (w : World) (h : W64 a) (b : Bool) (hb : rightB a = b) :
    Calls Try.prog 15 #[.int .u64 a] w fun e w' => e = .returned (.bool b) ∧ w = w' := by
  subst hb; exact refright_any a w h

theorem refroot_any (a b : Int) (w : World) (ha : W64 a) (hb : W64 b) :
    Calls Try.prog 12 #[.int .u64 a, .int .u64 b] w fun e w' => e = .returned (.tuple #[.int .u64 (rVal a b), .bool (rOk a b)]) ∧ w = w' := by
  have hw := ha
  obtain ⟨a0, a1⟩ := ha
  obtain ⟨b0, b1⟩ := hb
  by_cases hz : a = 0
  · subst hz
    by_cases ht : b ≤ 1048575
    · have e1 : rOk 0 b = true := by simp [rOk, ht]
      have e2 : rVal 0 b = b := by simp [rVal, e1]
      rw [e1, e2]
      clear e1 e2
      go_enter Try.func12, Try.ntmps12
      go_wp2
      go_ret2
      exact ⟨rfl, rfl⟩
    · have e1 : rOk 0 b = false := by simp [rOk, ht]
      have e2 : rVal 0 b = 0 := by simp [rVal, e1]
      rw [e1, e2]
      clear e1 e2
      go_enter Try.func12, Try.ntmps12
      go_wp2
      go_ret2
      exact ⟨rfl, rfl⟩
  · have hp : 0 < a := by omega
    cases hr : rightB a
    · have e1 : rOk a b = false := by simp [rOk, hr, hz]
      have e2 : rVal a b = 0 := by simp [rVal, e1]
      rw [e1, e2]
      have hR := Lib.hid hr
      clear e1 e2 hr
      go_enter Try.func12, Try.ntmps12
      go_wp2_with (go_at_call 15; refine (refright_is _ _ hw _ hR.out).mono ?_; rintro e w' ⟨rfl, rfl⟩)
      go_ret2
      exact ⟨rfl, rfl⟩
    · have hl := rightB_le hr
      by_cases ht : b ≤ 1048575
      · have e1 : rOk a b = true := by simp [rOk, hr, ht]
        have e2 : rVal a b = a * 1048576 + b := by simp [rVal, e1]
        rw [e1, e2]
        have hR := Lib.hid hr
        clear e1 e2 hr
        go_enter Try.func12, Try.ntmps12
        go_wp2_with (go_at_call 15; refine (refright_is _ _ hw _ hR.out).mono ?_; rintro e w' ⟨rfl, rfl⟩)
        go_ret2
        exact ⟨rfl, rfl⟩
      · have e1 : rOk a b = false := by simp [rOk, ht]
        have e2 : rVal a b = 0 := by simp [rVal, e1]
        rw [e1, e2]
        have hR := Lib.hid hr
        clear e1 e2 hr
        go_enter Try.func12, Try.ntmps12
        go_wp2_with (go_at_call 15; refine (refright_is _ _ hw _ hR.out).mono ?_; rintro e w' ⟨rfl, rfl⟩)
        go_ret2
        exact ⟨rfl, rfl⟩

theorem refnote_any (a b : Int) (w : World) (ha : W64 a) (hb : W64 b) :
    Calls Try.prog 13 #[.int .u64 a, .int .u64 b] w fun e w' => e = .returned (.tuple #[.int .u64 (nVal a b), .bool (nOk a b)]) ∧ w = w' := by
  obtain ⟨a0, a1⟩ := ha
  obtain ⟨b0, b1⟩ := hb
  cases h : nOk a b
  · have e2 : nVal a b = 0 := by simp [nVal, h]
    have h' : 4294967295 < a ∨ (a ≤ 4294967295 ∧ 4294967295 < b) := by simp [nOk] at h; omega
    rw [e2]
    clear h e2
    rcases h' with h | ⟨h1, h2⟩
    all_goals
      go_enter Try.func13, Try.ntmps13
      go_wp2
      go_ret2
      exact ⟨rfl, rfl⟩
  · have e2 : nVal a b = a * 4294967296 + b := by simp [nVal, h]
    rw [e2]
    simp [nOk] at h
    obtain ⟨h1, h2⟩ := h
    clear e2
    go_enter Try.func13, Try.ntmps13
    go_wp2
    go_ret2
    exact ⟨rfl, rfl⟩

theorem handle_lit (w : World) : Calls Try.prog 8 #[.int .u64 1, .int .u64 1] w fun e w' => e = .returned (.tuple #[.int .u64 65537, .bool true]) ∧ w = w' :=
  handle_yes 1 1 w (by decide)
theorem handle_lit0 (w : World) : Calls Try.prog 8 #[.int .u64 0, .int .u64 1] w fun e w' => e = .returned (.tuple #[.int .u64 0, .bool false]) ∧ w = w' :=
  handle_no 0 1 w (by unfold W64; omega) (by unfold W64; omega) (by decide)
theorem root_lit (w : World) : Calls Try.prog 9 #[.int .u64 65537, .int .u64 5] w fun e w' => e = .returned (.tuple #[.int .u64 68720525317, .bool true]) ∧ w = w' :=
  root_yes 65537 5 w (by unfold W64; omega) (by unfold W64; omega) (by decide)
theorem next_lit (w : World) : Calls Try.prog 16 #[.int .u64 68720525317] w fun e w' => e = .returned (.tuple #[.int .u64 68720525318, .bool true]) ∧ w = w' :=
  next_any 68720525317 w (by unfold W64; omega)
theorem note_lit (w : World) : Calls Try.prog 10 #[.int .u64 7, .int .u64 9] w fun e w' => e = .returned (.tuple #[.int .u64 30064771081, .bool true]) ∧ w = w' :=
  note_yes 7 9 w (by unfold W64; omega) (by unfold W64; omega) (by decide)
theorem right_lit (w : World) : Calls Try.prog 14 #[.int .u64 65537] w fun e w' => e = .returned (.bool true) ∧ w = w' :=
  right_is 65537 w (by unfold W64; omega) true (by decide)
theorem right_lit0 (w : World) : Calls Try.prog 14 #[.int .u64 0] w fun e w' => e = .returned (.bool false) ∧ w = w' :=
  right_is 0 w (by unfold W64; omega) false (by decide)
theorem top_lit (w : World) : Calls Try.prog 20 #[.int .u64 68720525318] w fun e w' => e = .returned (.int .u64 65537) ∧ w = w' :=
  top_any 68720525318 w (by unfold W64; omega)
theorem turn_lit (w : World) : Calls Try.prog 19 #[.int .u64 68720525318] w fun e w' => e = .returned (.int .u64 6) ∧ w = w' :=
  turn_any 68720525318 w (by unfold W64; omega)
theorem seq_lit (w : World) : Calls Try.prog 22 #[.int .u64 30064771081] w fun e w' => e = .returned (.int .u64 7) ∧ w = w' :=
  seq_any 30064771081 w (by unfold W64; omega)
theorem body_lit (w : World) : Calls Try.prog 21 #[.int .u64 30064771081] w fun e w' => e = .returned (.int .u64 9) ∧ w = w' :=
  body_any 30064771081 w (by unfold W64; omega)
theorem birth_lit (w : World) : Calls Try.prog 18 #[.int .u64 65537] w fun e w' => e = .returned (.int .u64 1) ∧ w = w' :=
  birth_any 65537 w (by unfold W64; omega)
theorem block_lit (w : World) : Calls Try.prog 17 #[.int .u64 65537] w fun e w' => e = .returned (.int .u64 1) ∧ w = w' :=
  block_any 65537 w (by unfold W64; omega)

theorem first_any (w : World) :
    Calls Try.prog 7 #[] w fun e w' => e = .returned (.bool true) ∧ w = w' := by
  go_enter Try.func7, Try.ntmps7
  go_wp2_with (first
    | (go_at_call 8; (with_reducible refine (handle_lit _).mono ?_); rintro e w' ⟨rfl, rfl⟩)
    | (go_at_call 8; (with_reducible refine (handle_lit0 _).mono ?_); rintro e w' ⟨rfl, rfl⟩)
    | (go_at_call 9; (with_reducible refine (root_lit _).mono ?_); rintro e w' ⟨rfl, rfl⟩)
    | (go_at_call 16; (with_reducible refine (next_lit _).mono ?_); rintro e w' ⟨rfl, rfl⟩)
    | (go_at_call 10; (with_reducible refine (note_lit _).mono ?_); rintro e w' ⟨rfl, rfl⟩)
    | (go_at_call 20; (with_reducible refine (top_lit _).mono ?_); rintro e w' ⟨rfl, rfl⟩)
    | (go_at_call 19; (with_reducible refine (turn_lit _).mono ?_); rintro e w' ⟨rfl, rfl⟩)
    | (go_at_call 22; (with_reducible refine (seq_lit _).mono ?_); rintro e w' ⟨rfl, rfl⟩)
    | (go_at_call 21; (with_reducible refine (body_lit _).mono ?_); rintro e w' ⟨rfl, rfl⟩)
    | (go_at_call 14; (with_reducible refine (right_lit _).mono ?_); rintro e w' ⟨rfl, rfl⟩)
    | (go_at_call 14; (with_reducible refine (right_lit0 _).mono ?_); rintro e w' ⟨rfl, rfl⟩)
    | (go_at_call 18; (with_reducible refine (birth_lit _).mono ?_); rintro e w' ⟨rfl, rfl⟩)
    | (go_at_call 17; (with_reducible refine (block_lit _).mono ?_); rintro e w' ⟨rfl, rfl⟩))
  go_ret
  exact ⟨rfl, rfl⟩
end Fld
end Go.Proofs.Ythmcfkgeacjhlaa
