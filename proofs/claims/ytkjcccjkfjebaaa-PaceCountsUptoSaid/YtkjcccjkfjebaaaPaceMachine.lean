/- One of three machines, stepped and asked. -/
import Derived.Test.YtkjcccjkfjebaaaPaceStates
set_option linter.unusedVariables false
set_option linter.unusedSimpArgs false
namespace Go.Proofs.Ytkjcccjkfjebaaa
namespace Pac
open Go.RowKit Go.Maps Arn

def mcR (r : Nat) : Value := .agg #[.pointer (some ⟨r, 0, none⟩), .pointer none, .pointer none]
def mcF (r : Nat) : Value := .agg #[.pointer none, .pointer (some ⟨r, 0, none⟩), .pointer none]
def mcL (r : Nat) : Value := .agg #[.pointer none, .pointer none, .pointer (some ⟨r, 0, none⟩)]
set_option maxHeartbeats 1000000 in
theorem mc_step_R (r : Nat) (w : World) (G : World → Prop) (h : ∀ W, Frm.Turn [] w W → Calls Try.prog 53 #[.pointer (some ⟨r, 0, none⟩)] W fun e w' => e = .returned (.tuple #[]) ∧ G w') :
    Calls Try.prog 52 #[mcR r] w fun e w' => e = .returned (.tuple #[]) ∧ G w' := by
  unfold mcR
  have H := Lib.hid (fun o => h _ ((Frm.Turn.refl [] w).alloc o))
  clear h
  go_enter Try.func52, Try.ntmps52
  go_wp2_with (first
    | (go_at_call 53; (with_reducible refine (H.out _).mono ?_); rintro e w2 ⟨rfl, hG⟩))
  go_end0
  exact ⟨rfl, hG⟩
set_option maxHeartbeats 1000000 in
theorem mc_done_R (r : Nat) (w : World) (d : Bool) (h : ∀ W, Frm.Turn [] w W → Calls Try.prog 56 #[.pointer (some ⟨r, 0, none⟩)] W fun e w' => e = .returned (.bool d) ∧ W = w') :
    Calls Try.prog 49 #[mcR r] w fun e w' => e = .returned (.bool d) ∧ Frm.Turn [] w w' := by
  unfold mcR
  have H := Lib.hid (fun o => h _ ((Frm.Turn.refl [] w).alloc o))
  have HT := Lib.hid (fun o => (Frm.Turn.refl [] w).alloc o)
  clear h
  go_enter Try.func49, Try.ntmps49
  cases d
  · go_wp2_with (first
      | (go_at_call 56; (with_reducible refine (H.out _).mono ?_); rintro e w2 ⟨rfl, rfl⟩))
    go_ret
    exact ⟨rfl, HT.out _⟩
  · go_wp2_with (first
      | (go_at_call 56; (with_reducible refine (H.out _).mono ?_); rintro e w2 ⟨rfl, rfl⟩))
    go_ret
    exact ⟨rfl, HT.out _⟩
set_option maxHeartbeats 1000000 in
theorem mc_step_F (r : Nat) (w : World) (G : World → Prop) (h : ∀ W, Frm.Turn [] w W → Calls Try.prog 80 #[.pointer (some ⟨r, 0, none⟩)] W fun e w' => e = .returned (.tuple #[]) ∧ G w') :
    Calls Try.prog 52 #[mcF r] w fun e w' => e = .returned (.tuple #[]) ∧ G w' := by
  unfold mcF
  have H := Lib.hid (fun o => h _ ((Frm.Turn.refl [] w).alloc o))
  clear h
  go_enter Try.func52, Try.ntmps52
  go_wp2_with (first
    | (go_at_call 80; (with_reducible refine (H.out _).mono ?_); rintro e w2 ⟨rfl, hG⟩))
  go_end0
  exact ⟨rfl, hG⟩
set_option maxHeartbeats 1000000 in
theorem mc_done_F (r : Nat) (w : World) (d : Bool) (h : ∀ W, Frm.Turn [] w W → Calls Try.prog 82 #[.pointer (some ⟨r, 0, none⟩)] W fun e w' => e = .returned (.bool d) ∧ W = w') :
    Calls Try.prog 49 #[mcF r] w fun e w' => e = .returned (.bool d) ∧ Frm.Turn [] w w' := by
  unfold mcF
  have H := Lib.hid (fun o => h _ ((Frm.Turn.refl [] w).alloc o))
  have HT := Lib.hid (fun o => (Frm.Turn.refl [] w).alloc o)
  clear h
  go_enter Try.func49, Try.ntmps49
  cases d
  · go_wp2_with (first
      | (go_at_call 82; (with_reducible refine (H.out _).mono ?_); rintro e w2 ⟨rfl, rfl⟩))
    go_ret
    exact ⟨rfl, HT.out _⟩
  · go_wp2_with (first
      | (go_at_call 82; (with_reducible refine (H.out _).mono ?_); rintro e w2 ⟨rfl, rfl⟩))
    go_ret
    exact ⟨rfl, HT.out _⟩
set_option maxHeartbeats 1000000 in
theorem mc_step_L (r : Nat) (w : World) (G : World → Prop) (h : ∀ W, Frm.Turn [] w W → Calls Try.prog 77 #[.pointer (some ⟨r, 0, none⟩)] W fun e w' => e = .returned (.tuple #[]) ∧ G w') :
    Calls Try.prog 52 #[mcL r] w fun e w' => e = .returned (.tuple #[]) ∧ G w' := by
  unfold mcL
  have H := Lib.hid (fun o => h _ ((Frm.Turn.refl [] w).alloc o))
  clear h
  go_enter Try.func52, Try.ntmps52
  go_wp2_with (first
    | (go_at_call 77; (with_reducible refine (H.out _).mono ?_); rintro e w2 ⟨rfl, hG⟩))
  go_end0
  exact ⟨rfl, hG⟩
set_option maxHeartbeats 1000000 in
theorem mc_done_L (r : Nat) (w : World) (d : Bool) (h : ∀ W, Frm.Turn [] w W → Calls Try.prog 78 #[.pointer (some ⟨r, 0, none⟩)] W fun e w' => e = .returned (.bool d) ∧ W = w') :
    Calls Try.prog 49 #[mcL r] w fun e w' => e = .returned (.bool d) ∧ Frm.Turn [] w w' := by
  unfold mcL
  have H := Lib.hid (fun o => h _ ((Frm.Turn.refl [] w).alloc o))
  have HT := Lib.hid (fun o => (Frm.Turn.refl [] w).alloc o)
  clear h
  go_enter Try.func49, Try.ntmps49
  cases d
  · go_wp2_with (first
      | (go_at_call 78; (with_reducible refine (H.out _).mono ?_); rintro e w2 ⟨rfl, rfl⟩))
    go_ret
    exact ⟨rfl, HT.out _⟩
  · go_wp2_with (first
      | (go_at_call 78; (with_reducible refine (H.out _).mono ?_); rintro e w2 ⟨rfl, rfl⟩))
    go_ret
    exact ⟨rfl, HT.out _⟩
end Pac
end Go.Proofs.Ytkjcccjkfjebaaa
