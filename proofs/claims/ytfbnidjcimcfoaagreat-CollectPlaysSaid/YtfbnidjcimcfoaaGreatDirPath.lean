/- Paths: a slot's node, and those above it. -/
import Derived.Test.YtfbnidjcimcfoaaGreatDirCalls
import Derived.Test.YtfbnidjcimcfoaaGreatLeastAppend
import Derived.Deep.AppendSrc
import Derived.RangeFuncRecord
import Derived.Deep.DeepMust
set_option linter.unusedVariables false
set_option linter.unusedSimpArgs false
namespace Go.Proofs.YtfbnidjcimcfoaaGreat
namespace Dr
open Go.RowKit

theorem under_ints : Tryz.prog.underlying 138 = some (.slice 3) := by kernel_rfl
theorem info_int : (Tryz.prog.info? 3).map (fun i => (i.zero, i.size, i.bytes)) = some (some (.int .i64 0), 1, 8) := by kernel_rfl
theorem info_parts {P : Program} {t : TypeId} {z : Value} {s b : Nat} (h : (P.info? t).map (fun i => (i.zero, i.size, i.bytes)) = some (some z, s, b)) : ∃ i, P.info? t = some i ∧ i.zero = some z ∧ i.size = s ∧ i.bytes = b := by
  cases hq : P.info? t with
  | none => rw [hq] at h; cases h
  | some i =>
    rw [hq] at h
    simp only [Option.map_some, Option.some.injEq, Prod.mk.injEq] at h
    exact ⟨i, rfl, h.1, h.2.1, h.2.2⟩
theorem one_new (w : World) (x : Value) (t : TypeId) : ∀ j u, [x][j]? = some u → (w.alloc (.cells #[x] t)).cell? ((⟨w.heap.size, 0, none⟩ : Addr).add j) = some u := by
  intro j u hj
  match j, hj with
  | 0, hj =>
    simp at hj; subst hj
    have hb := World.alloc_heap_new w (.cells #[x] t)
    show (w.alloc (.cells #[x] t)).cell? ⟨w.heap.size, 0, none⟩ = _
    unfold World.cell?
    rw [hb]; rfl
theorem own_ge {w : World} {base : Nat} {e : TypeId} {size n : Nat} {v : Value} {xs : List Value} (h : w.ownsRow base e size v n xs) : ∀ k, v.ownBlock = some k → base ≤ k := by
  rcases h.2 with ⟨rfl, _⟩ | ⟨g, cap, cur, rfl, hb, _⟩
  · intro k hk; simp [Value.ownBlock] at hk
  · intro k hk; simp [Value.ownBlock] at hk; omega
/-- The k-th node of a path. -/
def nd (N : Int) (k : Nat) : Int := ((N.toNat / 2 ^ k : Nat) : Int)
def pathV (N : Int) (k : Nat) : List Value := (List.range k).map fun i => .int .i64 (nd N i)
theorem pathV_succ (N : Int) (k : Nat) : pathV N (k + 1) = pathV N k ++ [.int .i64 (nd N k)] := by simp [pathV, List.range_succ]
theorem pathV_get {N : Int} {k i : Nat} (h : i < k) : (pathV N k)[i]? = some (.int .i64 (nd N i)) := by
  unfold pathV
  rw [List.getElem?_map, List.getElem?_range h]
  rfl
theorem nd_zero {N : Int} (h : 0 ≤ N) : nd N 0 = N := by unfold nd; simp; omega
theorem nd_half (N : Int) (k : Nat) : nd N (k + 1) = nd N k / 2 := by
  unfold nd
  rw [Nat.pow_succ, ← Nat.div_div_eq_div_mul]
  omega
theorem nd_le {N : Int} (h : N ≤ 255) (k : Nat) : 0 ≤ nd N k ∧ nd N k ≤ 255 := by
  have := Nat.div_le_self N.toNat (2 ^ k)
  unfold nd
  generalize N.toNat / 2 ^ k = q at this ⊢
  omega
theorem nd_at : ∀ N : Fin 256, ∀ k : Fin 9, (1 ≤ N.val / 2 ^ k.val ↔ k.val < Go.Lib.bitLen N.val) := by decide +kernel
theorem nd_pos {N : Int} (h0 : 0 ≤ N) (h1 : N ≤ 255) {k : Nat} (hk : k ≤ 8) : 1 ≤ nd N k ↔ k < Go.Lib.bitLen N.toNat := by
  have h := nd_at ⟨N.toNat, by omega⟩ ⟨k, by omega⟩
  have h' : 1 ≤ N.toNat / 2 ^ k ↔ k < Go.Lib.bitLen N.toNat := h
  unfold nd
  rw [← h']
  generalize N.toNat / 2 ^ k = q
  omega
set_option maxRecDepth 100000 in
theorem Path_no (n : Int) (w : World) (h : n < 0 ∨ 255 ≤ n) :
    Calls Tryz.prog 79 #[.int .i64 n] w fun e w' => e = .returned (.slice none 0 0) ∧ w = w' := by
  have HS := Lib.hid (fun W => Segment_no n W h)
  clear h
  go_enter Tryz.func79, Tryz.ntmps79
  go_wp2_with (go_at_call 102; (with_reducible refine (HS.out _).mono ?_); rintro e w1 ⟨rfl, rfl⟩)
  go_ret
  exact ⟨rfl, rfl⟩
set_option maxRecDepth 100000 in
set_option maxHeartbeats 4000000 in
theorem Path_yes (n : Int) (w : World) (h0 : 0 ≤ n) (h1 : n ≤ 254) :
    Calls Tryz.prog 79 #[.int .i64 n] w fun e w' => ∃ v, e = .returned v ∧ w'.ownsRow w.heap.size 3 1 v (Go.Lib.bitLen (n + 1).toNat) (pathV (n + 1) (Go.Lib.bitLen (n + 1).toNat)) ∧ Frm.Turn [] w w' := by
  obtain ⟨i0, hi0, hz0, hz1, hz2⟩ := info_parts info_int
  have HS := Lib.hid (fun W => Segment_yes n W h0 h1)
  have HN := Lib.hid (fun W => nodeOf_any n W h0 h1)
  generalize p2 (segN (n + 1)) = p at HS
  generalize segN (n + 1) = g at HS
  have hr := seg_range ⟨(n + 1).toNat, by omega⟩ (by show 1 ≤ (n + 1).toNat; omega)
  have hr' : 1 ≤ Go.Lib.bitLen (n + 1).toNat ∧ Go.Lib.bitLen (n + 1).toNat ≤ 8 := hr
  have HP := Lib.hid (fun k (hk : k ≤ 8) => nd_pos (N := n + 1) (by omega) (by omega) hk)
  have HL := Lib.hid (fun k => nd_le (N := n + 1) (by omega) k)
  have HZ := Lib.hid (nd_zero (N := n + 1) (by omega))
  generalize Go.Lib.bitLen (n + 1).toNat = K at hr' HP ⊢
  obtain ⟨hK1, hK8⟩ := hr'
  clear hr
  have hw0 : w.heap.size ≤ w.heap.size := Nat.le_refl _
  go_enter Tryz.func79, Tryz.ntmps79
  go_wp2_with (first
    | (go_at_call 102; (with_reducible refine (HS.out _).mono ?_); rintro e w1 ⟨rfl, rfl⟩)
    | (go_at_call 103; (with_reducible refine (HN.out _).mono ?_); rintro e w1 ⟨rfl, rfl⟩))
  go_loopw [6, 7] (fun pv nv wr => ∃ (k : Nat) (node : Int), nv = .int .i64 node ∧ Hid (node = nd (n + 1) k) ∧ 0 ≤ node ∧ node ≤ 255 ∧ k ≤ K ∧ wr.ownsRow w.heap.size 3 1 pv k (pathV (n + 1) k) ∧ Frm.Turn [] w wr)
    (fun _ nv _ => (intOf nv).toNat)
  case atStart => exact ⟨0, n + 1, rfl, Lib.hid HZ.out.symm, by omega, by omega, Nat.zero_le _, World.ownsRow_nil _ _ _ _, Frm.Turn.refl [] _⟩
  case round =>
    obtain ⟨k, node, rfl, HNd, hn0, hn1, hk, hrow, hT⟩ := hrel
    obtain ⟨ao, ac, rfl⟩ := Frm.row_form hrow
    have hsz := hT.size
    have HRow := Lib.hid hrow
    have HT := Lib.hid hT
    clear hrow hT
    by_cases hp : 1 ≤ node
    · have hkK : k < K := (HP.out k (by omega)).1 (by rw [← HNd.out]; exact hp)
      go_wp2_with (at_builtin; go_must (refine wpList_append_own_at _ rfl _ _ 138 rfl w.heap.size 3 i0 (.int .i64 0) 1 8 under_ints hi0 hz0 hz1 hz2 rfl (by decide) (.slice ao k ac) k (pathV (n + 1) k) rfl (Frm.owns_turn HRow.out ((Frm.Turn.refl [] wr).alloc _) (by simp)) ⟨wr.heap.size, 0, none⟩ 1 1 [.int .i64 node] rfl rfl (one_new _ _ _) (by simp [Value.oneCell']) (by unfold maxLen; omega) (by omega) (by simp; omega) ?_); intro v1 w3 hown3 hg3 _ hl3; obtain ⟨a1, c1, rfl⟩ := Frm.row_form hown3; have HO3 := Lib.hid hown3; have HG3 := Lib.hid hg3; clear hown3 hg3 hl3)
      have hT3 : Frm.Turn [] w w3 := (HT.out.alloc _).trans (Frm.Turn.of_grown HG3.out) (fun q hq => by simp at hq; exact .inr (own_ge HRow.out q hq))
      have hown : w3.ownsRow w.heap.size 3 1 (.slice a1 (k + 1) c1) (k + 1) (pathV (n + 1) (k + 1)) := by rw [pathV_succ, ← HNd.out]; exact HO3.out
      refine ⟨⟨k + 1, node / 2, rfl, Lib.hid (by rw [nd_half, ← HNd.out]), by omega, by omega, by omega, hown, hT3⟩, ?_⟩
      simp [intOf]
      omega
    · have hkK : k = K := by
        rcases Nat.lt_or_ge k K with h | h
        · exact absurd ((HP.out k (by omega)).2 h) (by rw [← HNd.out]; exact hp)
        · omega
      have hp' : node < 1 := by omega
      have HK := Lib.hid hkK
      clear hkK hp
      go_wp2
      go_ret
      refine ⟨.slice ao k ac, rfl, ?_, HT.out⟩
      rw [← HK.out]
      exact HRow.out
end Dr
end Go.Proofs.YtfbnidjcimcfoaaGreat
