/- Plain arithmetic of words with several parts (handles, roots, notes): no program is spoken of here. -/
import Derived.WalkKit
import Derived.Laws.BitsAll
import Derived.WalkArith
namespace Go.Proofs.YtpajafecodkndaaGreat
namespace Fld

/-- May these be a handle's birth and block? -/
def hOk (a b : Int) : Bool := decide (1 ≤ a ∧ a ≤ 268435455 ∧ 1 ≤ b ∧ b ≤ 65535)
def hVal (a b : Int) : Int := if hOk a b = true then a * 65536 + b else 0
def rightB (h : Int) : Bool := hOk (h / 65536) (h % 65536)
def rOk (h t : Int) : Bool := decide ((h = 0 ∨ rightB h = true) ∧ t ≤ 1048575)
def rVal (h t : Int) : Int := if rOk h t = true then h * 1048576 + t else 0
def nOk (s b : Int) : Bool := decide (s ≤ 4294967295 ∧ b ≤ 4294967295)
def nVal (s b : Int) : Int := if nOk s b = true then s * 4294967296 + b else 0
/-- A word of 64 bits. -/
def W64 (a : Int) : Prop := 0 ≤ a ∧ a ≤ 18446744073709551615

theorem u64_range {a : Int} (h : (Lit.int .u64 a).wf = true) : W64 a := by
  unfold W64
  simp [Lit.wf, IntKind.min, IntKind.max, IntKind.bits, IntKind.signed] at h
  omega
theorem u8_range {a : Int} (h : (Lit.int .u8 a).wf = true) : 0 ≤ a ∧ a ≤ 255 := by
  simp [Lit.wf, IntKind.min, IntKind.max, IntKind.bits, IntKind.signed] at h
  omega

theorem rightB_le {h : Int} (h1 : rightB h = true) : 65537 ≤ h ∧ h ≤ 17592186044415 := by
  unfold rightB hOk at h1; simp at h1; omega
theorem or_join16 (a b : Int) (h0 : 0 ≤ a) (h1 : a ≤ 268435455) (h2 : 0 ≤ b) (h3 : b ≤ 65535) : bits .or .u64 (a * 65536) b = a * 65536 + b := by
  rw [u64_or _ _ (by omega) (by omega) (by omega) (by omega)]
  rw [nat_join 16 _ _ (by omega) (by omega)]
  omega
theorem or_join20 (a b : Int) (h0 : 0 ≤ a) (h1 : a ≤ 17592186044415) (h2 : 0 ≤ b) (h3 : b ≤ 1048575) : bits .or .u64 (a * 1048576) b = a * 1048576 + b := by
  rw [u64_or _ _ (by omega) (by omega) (by omega) (by omega)]
  rw [nat_join 20 _ _ (by omega) (by omega)]
  omega
theorem or_join32 (a b : Int) (h0 : 0 ≤ a) (h1 : a ≤ 4294967295) (h2 : 0 ≤ b) (h3 : b ≤ 4294967295) : bits .or .u64 (a * 4294967296) b = a * 4294967296 + b := by
  rw [u64_or _ _ (by omega) (by omega) (by omega) (by omega)]
  rw [nat_join 32 _ _ (by omega) (by omega)]
  omega
theorem and_mask16 (a : Int) (h : W64 a) : bits .and .u64 a 65535 = a % 65536 := by
  obtain ⟨h0, h1⟩ := h
  rw [u64_and _ _ (by omega) (by omega) (by omega) (by omega)]
  rw [show (65535 : Int).toNat = 65535 from rfl, nat_mask16]
  omega
theorem and_mask20 (a : Int) (h : W64 a) : bits .and .u64 a 1048575 = a % 1048576 := by
  obtain ⟨h0, h1⟩ := h
  rw [u64_and _ _ (by omega) (by omega) (by omega) (by omega)]
  rw [show (1048575 : Int).toNat = 1048575 from rfl, nat_mask20]
  omega
theorem and_mask32 (a : Int) (h : W64 a) : bits .and .u64 a 4294967295 = a % 4294967296 := by
  obtain ⟨h0, h1⟩ := h
  rw [u64_and _ _ (by omega) (by omega) (by omega) (by omega)]
  rw [show (4294967295 : Int).toNat = 4294967295 from rfl, nat_mask32]
  omega
end Fld
end Go.Proofs.YtpajafecodkndaaGreat
