/- Plain arithmetic of the numbers of operations and responses: no program is spoken of here. -/
import Derived.Test.YtlfejjegegdbnaaDoorOpsPlain
import Derived.WalkKit
import Derived.Laws.BitsAll
import Derived.WalkArith
set_option linter.unusedVariables false
namespace Go.Proofs.YtlfejjegegdbnaaDoor
namespace Ops
open Go.Lib

def W64 (a : Int) : Prop := 0 ≤ a ∧ a ≤ 18446744073709551615
/-- The number of an operation, or of a response (that has one part, ahead of a width of its own). -/
def opN (c k a b : Int) : Int := c * 268435456 + k * 1048576 + a * 1024 + b
def respN (k v : Int) : Int := k * 268435456 + v

theorem or28 (a b : Int) (h0 : 0 ≤ a) (h1 : a ≤ 100) (h2 : 0 ≤ b) (h3 : b ≤ 268435455) : bits .or .u64 (a * 268435456) b = a * 268435456 + b := by
  rw [u64_or _ _ (by omega) (by omega) (by omega) (by omega)]
  rw [nat_join 28 _ _ (by omega) (by omega)]
  omega
theorem or20 (a b : Int) (h0 : 0 ≤ a) (h1 : a ≤ 10000) (h2 : 0 ≤ b) (h3 : b ≤ 1048575) : bits .or .u64 (a * 1048576) b = a * 1048576 + b := by
  rw [u64_or _ _ (by omega) (by omega) (by omega) (by omega)]
  rw [nat_join 20 _ _ (by omega) (by omega)]
  omega
theorem or10 (a b : Int) (h0 : 0 ≤ a) (h1 : a ≤ 10000000) (h2 : 0 ≤ b) (h3 : b ≤ 1023) : bits .or .u64 (a * 1024) b = a * 1024 + b := by
  rw [u64_or _ _ (by omega) (by omega) (by omega) (by omega)]
  rw [nat_join 10 _ _ (by omega) (by omega)]
  omega
theorem or_op1 (c k : Int) (hc : 0 ≤ c ∧ c ≤ 14) (hk : 0 ≤ k ∧ k ≤ 255) : bits .or .u64 (c * 268435456) (k * 1048576) = c * 268435456 + k * 1048576 :=
  or28 c (k * 1048576) (by omega) (by omega) (by omega) (by omega)
theorem or_op2 (c k a : Int) (hc : 0 ≤ c ∧ c ≤ 14) (hk : 0 ≤ k ∧ k ≤ 255) (ha : 0 ≤ a ∧ a ≤ 1023) : bits .or .u64 (c * 268435456 + k * 1048576) (a * 1024) = c * 268435456 + k * 1048576 + a * 1024 := by
  have := or20 (c * 256 + k) (a * 1024) (by omega) (by omega) (by omega) (by omega)
  rw [show (c * 256 + k) * 1048576 = c * 268435456 + k * 1048576 by omega] at this
  exact this
theorem or_op3 (c k a b : Int) (hc : 0 ≤ c ∧ c ≤ 14) (hk : 0 ≤ k ∧ k ≤ 255) (ha : 0 ≤ a ∧ a ≤ 1023) (hb : 0 ≤ b ∧ b ≤ 1023) : bits .or .u64 (c * 268435456 + k * 1048576 + a * 1024) b = opN c k a b := by
  have := or10 (c * 262144 + k * 1024 + a) b (by omega) (by omega) (by omega) (by omega)
  rw [show (c * 262144 + k * 1024 + a) * 1024 = c * 268435456 + k * 1048576 + a * 1024 by omega] at this
  exact this
theorem and_low (a : Int) (i : Nat) (h0 : 0 ≤ a) (h1 : a ≤ 18446744073709551615) (m : Int) (hm : m = (2 ^ i : Nat) - 1) (hi : i ≤ 60) : bits .and .u64 a m = a % (2 ^ i : Nat) := by
  have hp : (2 : Nat) ^ i ≤ 2 ^ 60 := Nat.pow_le_pow_right (by decide) hi
  have hq : 1 ≤ (2 : Nat) ^ i := Nat.one_le_pow _ _ (by decide)
  have h60 : (2 : Nat) ^ 60 = 1152921504606846976 := by decide
  rw [u64_and _ _ (by omega) (by omega) (by omega) (by omega)]
  rw [show m.toNat = 2 ^ i - 1 by omega, Nat.and_two_pow_sub_one_eq_mod]
  first | (rw [Int.natCast_emod, Int.toNat_of_nonneg h0]) | (simp [Int.toNat_of_nonneg h0])
theorem and255 (a : Int) (h0 : 0 ≤ a) (h1 : a ≤ 18446744073709551615) : bits .and .u64 a 255 = a % 256 := by
  have := and_low a 8 h0 h1 255 (by decide) (by decide); simpa using this
theorem and1023 (a : Int) (h0 : 0 ≤ a) (h1 : a ≤ 18446744073709551615) : bits .and .u64 a 1023 = a % 1024 := by
  have := and_low a 10 h0 h1 1023 (by decide) (by decide); simpa using this
theorem and28 (a : Int) (h0 : 0 ≤ a) (h1 : a ≤ 18446744073709551615) : bits .and .u64 a 268435455 = a % 268435456 := by
  have := and_low a 28 h0 h1 268435455 (by decide) (by decide); simpa using this

theorem most_op : ∀ c, c < opT.length → opT.m0 c ≤ 255 ∧ opT.m1 c ≤ 1023 ∧ opT.m2 c ≤ 1023 := by decide
theorem most_resp : ∀ c, c < respT.length → respT.m0 c ≤ 268435455 ∧ respT.m1 c = 0 ∧ respT.m2 c = 0 := by decide
theorem op_range {c k a b : Int} (h : opT.rightB c k a b = true) : (0 ≤ c ∧ c ≤ 14) ∧ (0 ≤ k ∧ k ≤ 255) ∧ (0 ≤ a ∧ a ≤ 1023) ∧ (0 ≤ b ∧ b ≤ 1023) := by
  obtain ⟨n, rfl, hn, h0, h1, h2⟩ := right_parts h
  have := most_op n hn
  have hn' : n < 15 := hn
  omega
theorem resp_range {k v : Int} (h : respT.rightB k v 0 0 = true) : (0 ≤ k ∧ k ≤ 5) ∧ (0 ≤ v ∧ v ≤ 268435455) := by
  obtain ⟨n, rfl, hn, h0, h1, h2⟩ := right_parts h
  have := most_resp n hn
  have hn' : n < 6 := hn
  omega
/-- Pack's answer: the number, or 0. -/
def opP (c k a b : Int) : Int := if opT.rightB c k a b then opN c k a b else 0
def respP (k v : Int) : Int := if respT.rightB k v 0 0 then respN k v else 0
end Ops
end Go.Proofs.YtlfejjegegdbnaaDoor
