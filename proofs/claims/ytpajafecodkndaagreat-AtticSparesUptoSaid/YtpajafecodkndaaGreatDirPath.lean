/- Paths: a slot's node, and those above it. -/
import Derived.Test.YtpajafecodkndaaGreatDirCalls
import Derived.Test.YtpajafecodkndaaGreatLeastAppend
import Derived.Deep.AppendSrc
import Derived.RangeFuncRecord
import Derived.Deep.DeepMust
set_option linter.unusedVariables false
set_option linter.unusedSimpArgs false
namespace Go.Proofs.YtpajafecodkndaaGreat
namespace Dr
open Go.RowKit

theorem under_ints : Tryz.prog.underlying 116 = some (.slice 3) := by kernel_rfl
theorem info_int : (Tryz.prog.info? 3).map (fun i => (i.zero, i.size, i.bytes)) = some (some (.int .i64 0), 1, 8) := by kernel_rfl
theorem info_parts {P : Program} {t : TypeId} {z : Value} {s b : Nat} (h : (P.info? t).map (fun i => (i.zero, i.size, i.bytes)) = some (some z, s, b)) : ∃ i, P.info? t = some i ∧ i.zero = some z ∧ i.size = s ∧ i.bytes = b := by
  cases hq : P.info? t with
  | none => rw [hq] at h; cases h
  | some i =>
    rw [hq] at h
    simp only [Option.map_some, Option.some.injEq, Prod.mk.injEq] at h
    exact ⟨i, rfl, h.1, h.2.1, h.2.2⟩
theorem one_new (w : World) (x : Value) (t : TypeId) : ∀ j u, [x][j]? = some u → (w.alloc (.cells #[x] t)).cell? ((⟨w.heap.size, 0, none⟩ : Addr).add j) = some u := by
  intro j u hj
  match j, hj with
  | 0, hj =>
    simp at hj; subst hj
    have hb := World.alloc_heap_new w (.cells #[x] t)
    show (w.alloc (.cells #[x] t)).cell? ⟨w.heap.size, 0, none⟩ = _
    unfold World.cell?
    rw [hb]; rfl
theorem own_ge {w : World} {base : Nat} {e : TypeId} {size n : Nat} {v : Value} {xs : List Value} (h : w.ownsRow base e size v n xs) : ∀ k, v.ownBlock = some k → base ≤ k := by
  rcases h.2 with ⟨rfl, _⟩ | ⟨g, cap, cur, rfl, hb, _⟩
  · intro k hk; simp [Value.ownBlock] at hk
  · intro k hk; simp [Value.ownBlock] at hk; omega
/-- The k-th node of a path. -/
def nd (N : Int) (k : Nat) : Int := ((N.toNat / 2 ^ k : Nat) : Int)
def pathV (N : Int) (k : Nat) : List Value := (List.range k).map fun i => .int .i64 (nd N i)
theorem pathV_succ (N : Int) (k : Nat) : pathV N (k + 1) = pathV N k ++ [.int .i64 (nd N k)] := by simp [pathV, List.range_succ]
theorem pathV_get {N : Int} {k i : Nat} (h : i < k) : (pathV N k)[i]? = some (.int .i64 (nd N i)) := by
  unfold pathV
  rw [List.getElem?_map, List.getElem?_range h]
  rfl
theorem nd_zero {N : Int} (h : 0 ≤ N) : nd N 0 = N := by unfold nd; simp; omega
theorem nd_half (N : Int) (k : Nat) : nd N (k + 1) = nd N k / 2 := by
  unfold nd
  rw [Nat.pow_succ, ← Nat.div_div_eq_div_mul]
  omega
theorem nd_le {N : Int} (h : N ≤ 255) (k : Nat) : 0 ≤ nd N k ∧ nd N k ≤ 255 := by
  have := Nat.div_le_self N.toNat (2 ^ k)
  unfold nd
  generalize N.toNat / 2 ^ k = q at this ⊢
  omega
theorem nd_at : ∀ N : Fin 256, ∀ k : Fin 9, (1 ≤ N.val / 2 ^ k.val ↔ k.val < Go.Lib.bitLen N.val) := by decide +kernel
theorem nd_pos {N : Int} (h0 : 0 ≤ N) (h1 : N ≤ 255) {k : Nat} (hk : k ≤ 8) : 1 ≤ nd N k ↔ k < Go.Lib.bitLen N.toNat := by
  have h := nd_at ⟨N.toNat, by omega⟩ ⟨k, by omega⟩
  have h' : 1 ≤ N.toNat / 2 ^ k ↔ k < Go.Lib.bitLen N.toNat := h
  unfold nd
  rw [← h']
  generalize N.toNat / 2 ^ k = q
  omega
end Dr
end Go.Proofs.YtpajafecodkndaaGreat
