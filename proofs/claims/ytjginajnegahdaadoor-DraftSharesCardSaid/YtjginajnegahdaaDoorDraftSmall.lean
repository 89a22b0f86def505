/- A key's digits, the words of values, counts: the small calls of layer 8. -/
import Derived.Test.YtjginajnegahdaaDoorDraftMem
set_option linter.unusedVariables false
set_option linter.unusedSimpArgs false
namespace Go.Proofs.YtjginajnegahdaaDoor
namespace Drf
open Go.RowKit Go.Maps

def digitOf (key level : Int) : Int :=
  if key < 0 ∨ 255 < key ∨ level < 0 ∨ 3 < level then 0
  else if level = 0 then key / 64 % 4 else if level = 1 then key / 16 % 4 else if level = 2 then key / 4 % 4 else key % 4
abbrev I64 (n : Int) : Prop := -9223372036854775808 ≤ n ∧ n ≤ 9223372036854775807
theorem and3 (x : Int) (h0 : 0 ≤ x) (h1 : x ≤ 255) : bits BinOp.and IntKind.i64 x 3 = x % 4 := by
  have h : ∀ a : Fin 256, bits BinOp.and IntKind.i64 ((a : Nat) : Int) 3 = ((a : Nat) : Int) % 4 := by decide +kernel
  have h2 := h ⟨x.toNat, by omega⟩
  simp only at h2
  rwa [show ((x.toNat : Nat) : Int) = x by omega] at h2
set_option maxRecDepth 100000 in
set_option maxHeartbeats 4000000 in
theorem digit_any (key level : Int) (hk : I64 key) (hl : I64 level) (w : World) :
    Calls Tryd.prog 67 #[.int .i64 key, .int .i64 level] w fun e w' => e = .returned (.int .i64 (digitOf key level)) ∧ w = w' := by
  unfold digitOf
  by_cases h1 : key < 0
  · rw [if_pos (.inl h1)]
    go_enter Tryd.func67, Tryd.ntmps67
    go_wp2
    go_ret
    exact ⟨rfl, rfl⟩
  by_cases h2 : 255 < key
  · rw [if_pos (.inr (.inl h2))]
    go_enter Tryd.func67, Tryd.ntmps67
    go_wp2
    go_ret
    exact ⟨rfl, rfl⟩
  by_cases h3 : level < 0
  · rw [if_pos (.inr (.inr (.inl h3)))]
    go_enter Tryd.func67, Tryd.ntmps67
    go_wp2
    go_ret
    exact ⟨rfl, rfl⟩
  by_cases h4 : 3 < level
  · rw [if_pos (.inr (.inr (.inr h4)))]
    go_enter Tryd.func67, Tryd.ntmps67
    go_wp2
    go_ret
    exact ⟨rfl, rfl⟩
  rw [if_neg (by omega)]
  have hc : level = 0 ∨ level = 1 ∨ level = 2 ∨ level = 3 := by omega
  rcases hc with rfl | rfl | rfl | rfl
  · go_enter Tryd.func67, Tryd.ntmps67
    go_wp2
    go_ret
    exact ⟨congrArg (fun x => Ending.returned (.int .i64 x)) (and3 _ (by omega) (by omega)), rfl⟩
  · go_enter Tryd.func67, Tryd.ntmps67
    go_wp2
    go_ret
    exact ⟨congrArg (fun x => Ending.returned (.int .i64 x)) (and3 _ (by omega) (by omega)), rfl⟩
  · go_enter Tryd.func67, Tryd.ntmps67
    go_wp2
    go_ret
    exact ⟨congrArg (fun x => Ending.returned (.int .i64 x)) (and3 _ (by omega) (by omega)), rfl⟩
  · go_enter Tryd.func67, Tryd.ntmps67
    go_wp2
    go_ret
    exact ⟨congrArg (fun x => Ending.returned (.int .i64 x)) (and3 _ (by omega) (by omega)), rfl⟩
theorem digit_dig (key : Int) (lv : Nat) (h0 : 0 ≤ key) (h1 : key ≤ 255) (hl : lv ≤ 3) : digitOf key lv = (dig key lv : Nat) := by
  unfold digitOf dig
  rw [if_neg (by omega)]
  match lv, hl with
  | 0, _ => simp; omega
  | 1, _ => simp; omega
  | 2, _ => simp; omega
  | 3, _ => simp; omega
theorem dig_any (key : Int) (lv : Nat) (h0 : 0 ≤ key) (h1 : key ≤ 255) (hl : lv ≤ 3) (w : World) :
    Calls Tryd.prog 67 #[.int .i64 key, .int .i64 lv] w fun e w' => e = .returned (.int .i64 (dig key lv : Nat)) ∧ w = w' := by
  have := digit_any key lv (by unfold I64; omega) (by unfold I64; omega) w
  rwa [digit_dig key lv h0 h1 hl] at this
end Drf
end Go.Proofs.YtjginajnegahdaaDoor
