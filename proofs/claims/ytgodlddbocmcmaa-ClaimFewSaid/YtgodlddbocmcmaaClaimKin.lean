/- An arena beside blocks that it leaves alone; the document's words of slots. -/
import Derived.Test.YtgodlddbocmcmaaClaimFirst
set_option linter.unusedVariables false
set_option linter.unusedSimpArgs false
namespace Go.Proofs.Ytgodlddbocmcmaa
namespace Clm
open Go.RowKit Go.Maps Arn Pac

variable {w W W' : World} {r b n : Nat} {K : List Nat} {A : Ar} {C : Cl}
/-- An arena that was made since w, beside blocks K that it leaves alone. -/
def Kin (w : World) (b : Nat) (K : List Nat) (A : Ar) (n : Nat) (W : World) : Prop := ∃ M, Sin w b M A n W ∧ ∀ k, k ∈ K → k ∉ M.foot b ∧ k < W.heap.size
/-- Of K nothing has turned, but r; what has turned was made since w. -/
def But (w : World) (K : List Nat) (r : Option Nat) (W W' : World) : Prop := ∃ F, Frm.Turn F W W' ∧ (∀ k, k ∈ K → some k ≠ r → k ∉ F) ∧ ∀ k, k ∈ F → w.heap.size ≤ k
theorem Kin.turn (h : Kin w b K A n W) : Frm.Turn [] w W := h.choose_spec.1.turn
theorem Kin.lt (h : Kin w b K A n W) {k : Nat} (hk : k ∈ K) : k < W.heap.size := (h.choose_spec.2 k hk).2
theorem Kin.arel (h : Kin w b K A n W) : Arel w b A n W := ⟨_, h.choose_spec.1⟩
theorem Kin.born (h : Kin w b K A n W) : A.births ≤ n := h.choose_spec.1.born
theorem Kin.ok (h : Kin w b K A n W) : A.Ok := h.choose_spec.1.at_.ok
theorem Kin.more {m : Nat} (h : Kin w b K A n W) (hm : n ≤ m) : Kin w b K A m W := by
  obtain ⟨M, h1, h2⟩ := h
  exact ⟨M, h1.more hm, h2⟩
theorem Kin.sub {K' : List Nat} (h : Kin w b K A n W) (hk : ∀ k, k ∈ K' → k ∈ K) : Kin w b K' A n W := by
  obtain ⟨M, h1, h2⟩ := h
  exact ⟨M, h1, fun k hk' => h2 k (hk k hk')⟩
/-- Blocks of K turn, or none. -/
theorem Kin.poke {G : List Nat} (h : Kin w b K A n W) (ht : Frm.Turn G W W') (hG : ∀ k, k ∈ G → k ∈ K ∧ w.heap.size ≤ k) : Kin w b K A n W' := by
  obtain ⟨M, h1, h2⟩ := h
  have := ht.size
  exact ⟨M, h1.apart ht (fun k hk hk' => (h2 k (hG k hk').1).1 hk) (fun k hk => (hG k hk).2), fun k hk => ⟨(h2 k hk).1, by have := (h2 k hk).2; omega⟩⟩
theorem Kin.step (h : Kin w b K A n W) (ht : Frm.Turn [] W W') : Kin w b K A n W' := h.poke ht (by simp)
theorem Kin.add (h : Kin w b K A n W) (ht : Frm.Turn [] W W') {k : Nat} (h1 : W.heap.size ≤ k) (h2 : k < W'.heap.size) : Kin w b (k :: K) A n W' := by
  obtain ⟨M, h3, h4⟩ := h
  have := ht.size
  refine ⟨M, h3.step ht, fun j hj => ?_⟩
  rcases List.mem_cons.1 hj with rfl | hj
  · exact ⟨fun hk => by have := h3.lt hk; omega, h2⟩
  · exact ⟨(h4 j hj).1, by have := (h4 j hj).2; omega⟩
theorem But.of (h : Frm.Turn [] W W') : But w K none W W' := ⟨[], h, by simp, by simp⟩
theorem But.pre {W0 : World} {o : Option Nat} (h : But w K o W W') (ht : Frm.Turn [] W0 W) : But w K o W0 W' := by
  obtain ⟨F, hT, h1, h2⟩ := h
  exact ⟨F, (ht.mono (by simp)).trans hT (fun k hk => .inl hk), h1, h2⟩
theorem But.heap {k : Nat} {o : Obj} (h : But w K (some r) W W') (hk : k ∈ K) (hr : k ≠ r) (ho : W.heap[k]? = some o) : W'.heap[k]? = some o := by
  obtain ⟨F, hT, h1, _⟩ := h
  exact hT.keep ho (h1 k hk (by simpa using hr))
theorem But.heap0 {k : Nat} {o : Obj} (h : But w K none W W') (hk : k ∈ K) (ho : W.heap[k]? = some o) : W'.heap[k]? = some o := by
  obtain ⟨F, hT, h1, _⟩ := h
  exact hT.keep ho (h1 k hk (by simp))
theorem But.at_ {s : Nat} {D : Cl} (h : But w K (some r) W W') (hk : s ∈ K) (hr : s ≠ r) (hc : ClAt W s b D) : ClAt W' s b D := h.heap hk hr hc
theorem But.at0 {s : Nat} {D : Cl} (h : But w K none W W') (hk : s ∈ K) (hc : ClAt W s b D) : ClAt W' s b D := h.heap0 hk hc
theorem But.low (h : But w K (some r) W W') : W.heap.size ≤ W'.heap.size := h.choose_spec.1.size
theorem But.row {e : TypeId} {size m : Nat} {v : Value} {xs : List Value} {o : Option Nat} (h : But w K o W W') (hv : ∀ k, v.ownBlock = some k → k ∈ K ∧ some k ≠ o) (hr : W.ownsRow w.heap.size e size v m xs) : W'.ownsRow w.heap.size e size v m xs := by
  obtain ⟨F, hT, h1, _⟩ := h
  exact Frm.owns_turn hr hT (fun k hk => h1 k (hv k hk).1 (hv k hk).2)
/-- What lay there ahead of w stays. -/
theorem But.old {o : Option Nat} {a : Addr} {v : Value} (h : But w K o W W') (ha : a.block < w.heap.size) (hc : W.cell? a = some v) : W'.cell? a = some v := by
  obtain ⟨F, hT, _, h2⟩ := h
  exact hT.cell hc (fun hk => by have := h2 _ hk; omega)
theorem kin_step (h : Kin w b K A n W) (hn : n ≤ 10000000) (hr : r ∈ K) (hw : w.heap.size ≤ r) (hc : ClAt W r b C) (hf : C.Fit) :
    Calls Try.prog 13 #[.pointer (some ⟨r, 0, none⟩)] W fun e w' => e = .returned (.tuple #[]) ∧ Kin w b K (C.step A).1 (n + 1) w' ∧ ClAt w' r b (C.step A).2 ∧ But w K (some r) W w' := by
  obtain ⟨M, h1, h2⟩ := h
  refine (step_any h1 hn hc (h2 r hr).1 hw hf).mono ?_
  rintro e w' ⟨he, M', k1, k2, k3, k4, k5⟩
  have hsz := k4.size
  refine ⟨he, ⟨M', k1, fun k hk => ⟨fun hk' => ?_, by have := (h2 k hk).2; omega⟩⟩, k2, ⟨_, k4, fun k hk hne hk' => ?_, fun k hk => ?_⟩⟩
  · rcases k5 k hk' with e1 | e1
    · exact (h2 k hk).1 e1
    · have := (h2 k hk).2; omega
  · rcases List.mem_cons.1 hk' with rfl | hk'
    · exact hne rfl
    · exact (h2 k hk).1 hk'
  · rcases List.mem_cons.1 hk with rfl | hk
    · exact hw
    · exact h1.new k hk
theorem kin_write (h : Kin w b K A n W) (hn : n ≤ 10000000) (blk i v : Int) (hb : W64 blk) (hi : (Lit.int .i64 i).wf = true) (hv : W64 v) :
    Calls Try.prog 10 #[.pointer (some ⟨b, 0, none⟩), .agg #[.int .u64 blk, .int .i64 i], .int .u64 v] W fun e w' => e = .returned (.int .i64 (A.write blk i v).2) ∧ Kin w b K (A.write blk i v).1 (n + 1) w' ∧ But w K none W w' := by
  obtain ⟨M, h1, h2⟩ := h
  refine (sin_write h1 (by omega) blk i v hb hi hv).mono ?_
  rintro e w' ⟨he, M', k1, k4, k5⟩
  have hsz := k4.size
  refine ⟨he, ⟨M', k1, fun k hk => ⟨fun hk' => ?_, by have := (h2 k hk).2; omega⟩⟩, ⟨_, k4, fun k hk hne hk' => (h2 k hk).1 hk', fun k hk => h1.new k hk⟩⟩
  rcases k5 k hk' with e1 | e1
  · exact (h2 k hk).1 e1
  · have := (h2 k hk).2; omega
theorem kin_new (h : Kin w b K A n W) (tok : Int) :
    Calls Try.prog 7 #[.pointer (some ⟨b, 0, none⟩), .int .u64 tok] W fun e w' => ∃ r, e = .returned (.pointer (some ⟨r, 0, none⟩)) ∧ r = W.heap.size ∧ Kin w b (r :: K) A n w' ∧ ClAt w' r b (Cl.new tok) ∧ Frm.Turn [] W w' := by
  refine (new_any tok W).mono ?_
  rintro e w' ⟨he, k1, k2, k3⟩
  exact ⟨_, he, rfl, h.add k2 (Nat.le_refl _) k3, k1, k2⟩

/-! ### the document's words -/
theorem two_mul_pow (k : Nat) : 2 ^ (k + 1) = 2 * 2 ^ k := by rw [Nat.pow_succ]; omega
set_option maxRecDepth 100000 in
theorem Pow_any (g : Nat) (W : World) (h : g ≤ 8) : Calls Try.prog 31 #[.int .i64 g] W fun e w' => e = .returned (.int .i64 ((2 ^ g : Nat) : Int)) ∧ W = w' := by
  go_enter Try.func31, Try.ntmps31
  go_wp2_with fail
  go_loopw [3, 4] (fun p i wr => ∃ (k : Nat) (y : Int), k ≤ g ∧ i = .int .i64 k ∧ p = .int .i64 y ∧ y = ((2 ^ k : Nat) : Int) ∧ W = wr) (fun _ i _ => g - (intOf i).toNat)
  case atStart => exact ⟨0, 1, Nat.zero_le _, rfl, rfl, rfl, rfl⟩
  case round =>
    obtain ⟨k, y, hk, rfl, rfl, hy, rfl⟩ := hrel
    have hp : 2 ^ k ≤ 2 ^ 8 := Nat.pow_le_pow_right (by omega) (by omega)
    have hy0 : 0 ≤ y := by rw [hy]; exact Int.natCast_nonneg _
    have hy1 : y ≤ 256 := by omega
    have HY := Lib.hid hy
    clear hy hp
    by_cases hlt : k < g
    · have hk1 : (k : Int) < (g : Int) := by omega
      go_wp2_with fail
      refine ⟨⟨k + 1, 2 * y, by omega, by simp, rfl, by rw [HY.out, two_mul_pow]; omega, by simp⟩, ?_⟩
      simp [intOf]; omega
    · obtain rfl : k = g := by omega
      go_wp2_with fail
      go_ret
      rw [HY.out]
      exact ⟨rfl, rfl⟩
theorem sg_least {s k : Nat} (h : s < 255) (hk : k ≤ sgN s) : 2 ^ k ≤ s + 1 := by
  have := sg_facts h
  have h2 : 2 ^ k ≤ 2 ^ sgN s := Nat.pow_le_pow_right (by omega) hk
  omega
set_option maxRecDepth 100000 in
set_option maxHeartbeats 1000000 in
theorem RSegment_any (s : Nat) (W : World) (h : s < 255) : Calls Try.prog 23 #[.int .i64 s] W fun e w' => e = .returned (.tuple #[.int .i64 (sgN s), .int .i64 (ofN s)]) ∧ W = w' := by
  obtain ⟨q1, q2, q3, q4, q5⟩ := sg_facts h
  have HP := Lib.hid (fun (g : Nat) (hg : g ≤ 8) W => Pow_any g W hg)
  go_enter Try.func23, Try.ntmps23
  go_wp2_with fail
  go_loopw [0, 4] (fun x i wr => ∃ (k : Nat) (y : Int), k ≤ sgN s ∧ i = .int .i64 k ∧ x = .int .i64 y ∧ y = (s : Int) + 1 - ((2 ^ k : Nat) : Int) ∧ W = wr) (fun _ i _ => sgN s - (intOf i).toNat)
  case atStart => exact ⟨0, s, Nat.zero_le _, rfl, rfl, by simp, rfl⟩
  case round =>
    obtain ⟨k, y, hk, rfl, rfl, hy, rfl⟩ := hrel
    have hle := sg_least h hk
    have hpk := Nat.pow_le_pow_right (show 0 < 2 by omega) hk
    have HPK := Lib.hid (HP.out k (by omega) W)
    have HS := Lib.hid (two_mul_pow k)
    obtain ⟨p, hp⟩ : ∃ p : Int, p = ((2 ^ k : Nat) : Int) := ⟨_, rfl⟩
    rw [← hp] at HPK hy
    have hp0 : 1 ≤ p := by have : 1 ≤ 2 ^ k := Nat.one_le_two_pow; omega
    have hp1 : p ≤ 255 := by omega
    have hy0 : 0 ≤ y := by omega
    have hy1 : y ≤ 255 := by omega
    by_cases hlt : k < sgN s
    · have hge : p ≤ y := by
        have h2 : 2 ^ (k + 1) ≤ s + 1 := sg_least h hlt
        rw [two_mul_pow] at h2
        omega
      have HY := Lib.hid (And.intro hy hp)
      have hk8 : (k : Int) ≤ 8 := by omega
      clear hy hp hle hpk q1 q2 q3 q4 q5
      go_wp2_with (go_at_call 31; (with_reducible refine (HPK.out).mono ?_); rintro e w1 ⟨rfl, rfl⟩)
      refine ⟨⟨k + 1, y - p, by omega, by simp, rfl, by have := HY.out.1; have := HY.out.2; have := HS.out; omega, by simp⟩, ?_⟩
      simp [intOf]; omega
    · obtain rfl : k = sgN s := by omega
      have hlt2 : y < p := by unfold ofN at q3; omega
      have HY : Hid (y = (ofN s : Int)) := Lib.hid (by unfold ofN; omega)
      clear hy hp hle hpk q1 q2 q3 q4 q5
      go_wp2_with (go_at_call 31; (with_reducible refine (HPK.out).mono ?_); rintro e w1 ⟨rfl, rfl⟩)
      go_ret2
      rw [HY.out]
      exact ⟨rfl, rfl⟩
set_option maxRecDepth 100000 in
theorem RWord_any (seg : Int) (s : Nat) (W : World) (h : s < 255) : Calls Try.prog 11 #[.agg #[.int .u64 seg, .int .i64 s], .int .i64 0] W fun e w' => e = .returned (.agg #[.int .u64 seg, .int .i64 (5 * (ofN s : Int))]) ∧ Frm.Turn [] W w' := by
  have H1 := Lib.hid (fun W => RSegment_any s W h)
  obtain ⟨q1, q2, q3, q4, q5⟩ := sg_facts h
  have b0 : (0 : Int) ≤ (ofN s : Int) := by omega
  have b1 : (ofN s : Int) ≤ 127 := by omega
  have HT : Hid (∀ o o', Frm.Turn [] W ((W.alloc o).alloc o')) := Lib.hid (fun o o' => ((Frm.Turn.refl [] W).alloc o).alloc o')
  generalize (ofN s : Int) = x at H1 b0 b1 ⊢
  generalize (sgN s : Int) = g at H1
  generalize (s : Int) = y at H1 ⊢
  clear q1 q2 q3 q4 q5 h
  go_enter Try.func11, Try.ntmps11
  go_wp2_with (first
    | (go_at_call 23; (with_reducible refine (H1.out _).mono ?_); rintro e w1 ⟨rfl, rfl⟩))
  have hn := World.alloc_heap_new (W.alloc (.cells #[.int .u64 seg, .int .i64 y] 34)) (.cells #[.int .u64 seg, .int .i64 (5 * x)] 39)
  rw [World.size_alloc] at hn
  have hld := load_adr hn
  exact bodyPost_ret (v := .agg #[.int .u64 seg, .int .i64 (5 * x)]) (by simp [results, Try.results11, asAddr, hld, Act.put]) rfl ⟨rfl, HT.out _ _⟩
end Clm
end Go.Proofs.Ytgodlddbocmcmaa
