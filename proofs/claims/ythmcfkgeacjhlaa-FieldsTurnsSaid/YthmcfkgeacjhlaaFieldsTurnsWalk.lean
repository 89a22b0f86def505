/- The walk of law FieldsTurns: it returns true for all words and counts, and leaves the world as it was. -/
import Derived.Test.YthmcfkgeacjhlaaFieldsRefs
namespace Go.Proofs.Ythmcfkgeacjhlaa
namespace Fld
open Go.RowKit

theorem rok_le {h t : Int} (h0 : 0 ≤ h) (hr : rOk h t = true) : h ≤ 17592186044415 ∧ t ≤ 1048575 := by
  simp [rOk] at hr
  obtain ⟨h1, h2⟩ := hr
  rcases h1 with rfl | h1
  · exact ⟨by omega, h2⟩
  · have := rightB_le h1; exact ⟨by omega, h2⟩
theorem rok_next {h t u : Int} (hr : rOk h t = true) : rOk h u = decide (u ≤ 1048575) := by
  simp [rOk] at hr ⊢
  intro _; exact hr.1

theorem top_is (a b : Int) (w : World) (h : W64 a) (hb : a / 1048576 = b) :
    Calls Try.prog 20 #[.int .u64 a] w fun e w' => e = .returned (.int .u64 b) ∧ w = w' := by
  subst hb; exact top_any a w h
theorem turn_is (a b : Int) (w : World) (h : W64 a) (hb : a % 1048576 = b) :
    Calls Try.prog 19 #[.int .u64 a] w fun e w' => e = .returned (.int .u64 b) ∧ w = w' := by
  subst hb; exact turn_any a w h
theorem next_is (a : Int) (v : Int) (b : Bool) (w : World) (h : W64 a) (hv : rVal (a / 1048576) (a % 1048576 + 1) = v) (hb : rOk (a / 1048576) (a % 1048576 + 1) = b) :
    Calls Try.prog 16 #[.int .u64 a] w fun e w' => e = .returned (.tuple #[.int .u64 v, .bool b]) ∧ w = w' := by
  subst hv hb; exact next_any a w h

/-- What the law's loop keeps: behind k turns the root of h with k turns more, or none. -/
def TurnsRel (h turn n : Int) (r ok i : Value) : Prop :=
  ∃ k : Nat, (k : Int) ≤ n ∧ i = .int .i64 k ∧
    ((rOk h (turn + k) = true ∧ r = .int .u64 (h * 1048576 + (turn + k)) ∧ ok = .bool true) ∨ (r = .int .u64 0 ∧ ok = .bool false))

theorem turns_any (h turn n : Int) (w : World) (hh : W64 h) (ht : W64 turn) (hn : 0 ≤ n ∧ n ≤ 255) :
    Calls Try.prog 6 #[.int .u64 h, .int .u64 turn, .int .u8 n] w fun e w' => e = .returned (.bool true) ∧ w = w' := by
  have hn0 := hn.1
  have hn1 := hn.2
  have hs : rOk h turn = true → rVal h turn = h * 1048576 + turn := by intro e; simp [rVal, e]
  have hs' : rOk h turn = false → rVal h turn = 0 := by intro e; simp [rVal, e]
  have HS := Lib.hid hs
  have HS' := Lib.hid hs'
  clear hn hs hs'
  go_enter Try.func6, Try.ntmps6
  go_wp2_with (first
    | (go_at_call 7; (with_reducible refine (first_any _).mono ?_); rintro e w' ⟨rfl, rfl⟩)
    | (go_at_call 9; (with_reducible refine (root_any _ _ _ hh ht).mono ?_); rintro e w' ⟨rfl, rfl⟩))
  go_loop [7, 8, 22] (fun r ok i => TurnsRel h turn n r ok i) (fun _ _ i => n.toNat - (intOf i).toNat)
  case atStart =>
    refine ⟨0, by omega, rfl, ?_⟩
    cases hr : rOk h turn
    · exact Or.inr ⟨by rw [HS'.out hr], rfl⟩
    · exact Or.inl ⟨by simpa using hr, by rw [HS.out hr]; simp, rfl⟩
  case round =>
    obtain ⟨k, hk, rfl, hR⟩ := hrel
    by_cases hlt : (k : Int) < n
    · rcases hR with ⟨hr, rfl, rfl⟩ | ⟨rfl, rfl⟩
      · obtain ⟨g1, g2⟩ := rok_le hh.1 hr
        have hh0 := hh.1
        have ht0 := ht.1
        have hw : W64 (h * 1048576 + (turn + k)) := ⟨by omega, by omega⟩
        have q1 : (h * 1048576 + (turn + k)) / 1048576 = h := by omega
        have q2 : (h * 1048576 + (turn + k)) % 1048576 = turn + k := by omega
        have q3 := rok_next (u := turn + k + 1) hr
        by_cases hm : turn + k < 1048575
        · have q4 : rOk h (turn + k + 1) = true := by rw [q3]; simpa using by omega
          have q5 : rVal h (turn + k + 1) = h * 1048576 + (turn + k) + 1 := by simp [rVal, q4]; omega
          have A1 := Lib.hid q1
          have A2 := Lib.hid q2
          have A4 : Hid (rOk ((h * 1048576 + (turn + k)) / 1048576) ((h * 1048576 + (turn + k)) % 1048576 + 1) = true) := Lib.hid (by rw [q1, q2, q4])
          have A5 : Hid (rVal ((h * 1048576 + (turn + k)) / 1048576) ((h * 1048576 + (turn + k)) % 1048576 + 1) = h * 1048576 + (turn + k) + 1) := Lib.hid (by rw [q1, q2, q5])
          have A6 := Lib.hid q4
          clear q1 q2 q3 q4 q5 hr
          go_wp2_with (first
            | (go_at_call 20; (with_reducible refine (top_is _ _ _ hw A1.out).mono ?_); rintro e w' ⟨rfl, rfl⟩)
            | (go_at_call 19; (with_reducible refine (turn_is _ _ _ hw A2.out).mono ?_); rintro e w' ⟨rfl, rfl⟩)
            | (go_at_call 16; (with_reducible refine (next_is _ _ _ _ hw A5.out A4.out).mono ?_); rintro e w' ⟨rfl, rfl⟩))
          go_round
          case rel => exact ⟨k + 1, by omega, by go_num, Or.inl ⟨by have := A6.out; rw [show turn + ((k + 1 : Nat) : Int) = turn + k + 1 by omega]; exact this, by go_num, rfl⟩⟩
          case measure => simp [intOf]; omega
        · have q4 : rOk h (turn + k + 1) = false := by rw [q3]; simpa using by omega
          have q5 : rVal h (turn + k + 1) = 0 := by simp [rVal, q4]
          have A1 := Lib.hid q1
          have A2 := Lib.hid q2
          have A4 : Hid (rOk ((h * 1048576 + (turn + k)) / 1048576) ((h * 1048576 + (turn + k)) % 1048576 + 1) = false) := Lib.hid (by rw [q1, q2, q4])
          have A5 : Hid (rVal ((h * 1048576 + (turn + k)) / 1048576) ((h * 1048576 + (turn + k)) % 1048576 + 1) = 0) := Lib.hid (by rw [q1, q2, q5])
          clear q1 q2 q3 q4 q5 hr
          go_wp2_with (first
            | (go_at_call 20; (with_reducible refine (top_is _ _ _ hw A1.out).mono ?_); rintro e w' ⟨rfl, rfl⟩)
            | (go_at_call 19; (with_reducible refine (turn_is _ _ _ hw A2.out).mono ?_); rintro e w' ⟨rfl, rfl⟩)
            | (go_at_call 16; (with_reducible refine (next_is _ _ _ _ hw A5.out A4.out).mono ?_); rintro e w' ⟨rfl, rfl⟩))
          go_round
          case rel => exact ⟨k + 1, by omega, by go_num, Or.inr ⟨rfl, rfl⟩⟩
          case measure => simp [intOf]; omega
      · go_wp2
        go_ret
        exact ⟨rfl, rfl⟩
    · clear hR
      go_wp2
      go_ret
      exact ⟨rfl, rfl⟩
end Fld
end Go.Proofs.Ythmcfkgeacjhlaa
