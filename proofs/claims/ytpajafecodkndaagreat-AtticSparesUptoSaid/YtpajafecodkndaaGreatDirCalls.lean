/- The calls of package dir: which slots, which nodes, in numbers. -/
import Derived.Test.YtpajafecodkndaaGreatRows
import Derived.Test.YtpajafecodkndaaGreatLeastFrame
import Derived.Lib.BitFns
import Derived.Lib.Tables
import Derived.Lib.Hide
import Derived.WalkKit
import Derived.WalkArith
import Derived.ProofKit
set_option linter.unusedVariables false
set_option linter.unusedSimpArgs false
namespace Go.Proofs.YtpajafecodkndaaGreat
namespace Dr
open Go.RowKit

/-- How many slots the segment g has. -/
def p2 (g : Int) : Int := if g = 0 then 1 else if g = 1 then 2 else if g = 2 then 4 else if g = 3 then 8 else if g = 4 then 16 else if g = 5 then 32 else if g = 6 then 64 else 128
/-- The segment of the node n. -/
def segN (n : Int) : Int := (Go.Lib.bitLen n.toNat : Int) - 1
theorem seg_range : ∀ n : Fin 256, 1 ≤ n.val → 1 ≤ Go.Lib.bitLen n.val ∧ Go.Lib.bitLen n.val ≤ 8 := by decide +kernel
theorem segN_range {n : Int} (h0 : 1 ≤ n) (h1 : n ≤ 255) : 0 ≤ segN n ∧ segN n ≤ 7 := by
  have h := seg_range ⟨n.toNat, by omega⟩ (by show 1 ≤ n.toNat; omega)
  have h' : 1 ≤ Go.Lib.bitLen n.toNat ∧ Go.Lib.bitLen n.toNat ≤ 8 := h
  unfold segN
  omega
theorem p2_range (g : Int) : 1 ≤ p2 g ∧ p2 g ≤ 128 := by
  unfold p2
  repeat' split
  all_goals omega
set_option maxRecDepth 100000 in
set_option maxHeartbeats 4000000 in
theorem len64_any (x : Int) (w : World) (h0 : 0 ≤ x) (h1 : x ≤ 255) :
    Calls Tryz.prog 179 #[.int .u64 x] w fun e w' => e = .returned (.int .i64 (Go.Lib.bitLen x.toNat)) ∧ w = w' := by
  have hm : x % 256 = x := Int.emod_eq_of_lt h0 (by omega)
  go_enter Tryz.func179, Tryz.ntmps179
  go_wp2
  go_ret
  refine ⟨congrArg Ending.returned (congrArg (Value.int IntKind.i64) ?_), rfl⟩
  have l := Go.Lib.bitLen_le8' x h0 h1
  have e : ∀ k : Int, 0 ≤ k → k ≤ 8 → wrap64 k = k := fun k q0 q1 => by unfold wrap64; omega
  rw [Go.Lib.len8_of x h0 h1, e (Go.Lib.bitLen x.toNat : Int) (by omega) (by omega), e (Go.Lib.bitLen x.toNat : Int) (by omega) (by omega)]
set_option maxRecDepth 100000 in
theorem len_any (x : Int) (w : World) (h0 : 0 ≤ x) (h1 : x ≤ 255) :
    Calls Tryz.prog 167 #[.int .u64 x] w fun e w' => e = .returned (.int .i64 (Go.Lib.bitLen x.toNat)) ∧ w = w' := by
  have H := Lib.hid (fun W => len64_any x W h0 h1)
  generalize Go.Lib.bitLen x.toNat = n at H ⊢
  go_enter Tryz.func167, Tryz.ntmps167
  go_wp2_with (go_at_call 179; (with_reducible refine (H.out _).mono ?_); rintro e w1 ⟨rfl, rfl⟩)
  go_ret
  exact ⟨rfl, rfl⟩
set_option maxRecDepth 100000 in
theorem slotsOf_any (g : Int) (w : World) (h0 : 0 ≤ g) (h1 : g ≤ 7) :
    Calls Tryz.prog 168 #[.int .i64 g] w fun e w' => e = .returned (.int .i64 (p2 g)) ∧ w = w' := by
  have h : g = 0 ∨ g = 1 ∨ g = 2 ∨ g = 3 ∨ g = 4 ∨ g = 5 ∨ g = 6 ∨ g = 7 := by omega
  clear h0 h1
  rcases h with rfl | rfl | rfl | rfl | rfl | rfl | rfl | rfl
  all_goals
    go_enter Tryz.func168, Tryz.ntmps168
    go_wp2
    go_ret
    exact ⟨rfl, rfl⟩
theorem countersOf_any (g : Int) (w : World) (h0 : 0 ≤ g) (h1 : g ≤ 7) :
    Calls Tryz.prog 191 #[.int .i64 g] w fun e w' => e = .returned (.int .i64 (2 * p2 g)) ∧ w = w' := by
  have H := Lib.hid (fun W => slotsOf_any g W h0 h1)
  obtain ⟨r0, r1⟩ := p2_range g
  generalize p2 g = n at H r0 r1 ⊢
  go_enter Tryz.func191, Tryz.ntmps191
  go_wp2_with (go_at_call 168; (with_reducible refine (H.out _).mono ?_); rintro e w1 ⟨rfl, rfl⟩)
  go_ret
  exact ⟨rfl, rfl⟩
theorem nodeOf_any (n : Int) (w : World) (h0 : 0 ≤ n) (h1 : n ≤ 254) :
    Calls Tryz.prog 166 #[.int .i64 n] w fun e w' => e = .returned (.int .i64 (n + 1)) ∧ w = w' := by
  go_enter Tryz.func166, Tryz.ntmps166
  go_wp2
  go_ret
  exact ⟨rfl, rfl⟩
set_option maxRecDepth 100000 in
theorem Segment_no (n : Int) (w : World) (h : n < 0 ∨ 255 ≤ n) :
    Calls Tryz.prog 148 #[.int .i64 n] w fun e w' => e = .returned (.tuple #[.int .i64 0, .int .i64 0, .bool false]) ∧ w = w' := by
  have hc : n < 0 ∨ (0 ≤ n ∧ 255 ≤ n) := by omega
  clear h
  rcases hc with h | ⟨h, h'⟩
  all_goals
    go_enter Tryz.func148, Tryz.ntmps148
    go_wp2
    go_ret3
    exact ⟨rfl, rfl⟩
set_option maxRecDepth 100000 in
theorem Segment_yes (n : Int) (w : World) (h0 : 0 ≤ n) (h1 : n ≤ 254) :
    Calls Tryz.prog 148 #[.int .i64 n] w fun e w' => e = .returned (.tuple #[.int .i64 (segN (n + 1)), .int .i64 (n + 1 - p2 (segN (n + 1))), .bool true]) ∧ w = w' := by
  obtain ⟨L, HL⟩ : ∃ L : Int, Hid (L = (Go.Lib.bitLen (n + 1).toNat : Int)) := ⟨_, Lib.hid rfl⟩
  have hr := segN_range (n := n + 1) (by omega) (by omega)
  have HS : Hid (segN (n + 1) = L - 1) := Lib.hid (by unfold segN; rw [HL.out])
  rw [HS.out] at hr ⊢
  obtain ⟨r0, r1⟩ := hr
  have HN := Lib.hid (fun W => nodeOf_any n W h0 h1)
  have HB := Lib.hid (fun W => len_any (n + 1) W (by omega) (by omega))
  rw [← HL.out] at HB
  have HP := Lib.hid (fun W => slotsOf_any (L - 1) W r0 r1)
  obtain ⟨q0, q1⟩ := p2_range (L - 1)
  generalize p2 (L - 1) = p at HP q0 q1 ⊢
  clear HS HL
  go_enter Tryz.func148, Tryz.ntmps148
  go_wp2_with (first
    | (go_at_call 166; (with_reducible refine (HN.out _).mono ?_); rintro e w1 ⟨rfl, rfl⟩)
    | (go_at_call 167; (with_reducible refine (HB.out _).mono ?_); rintro e w1 ⟨rfl, rfl⟩)
    | (go_at_call 168; (with_reducible refine (HP.out _).mono ?_); rintro e w1 ⟨rfl, rfl⟩))
  go_ret3
  exact ⟨rfl, rfl⟩
end Dr
end Go.Proofs.YtpajafecodkndaaGreat
