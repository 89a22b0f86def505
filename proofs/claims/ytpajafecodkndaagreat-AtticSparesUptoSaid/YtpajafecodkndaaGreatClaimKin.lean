/- A claim in memory; its calls that touch no arena. -/
/- A claim's steps: each of them one access of the arena. -/
/- A claim's steps: take, lay. -/
/- A claim made, stepped, asked. -/
/- One that claims beside its arena; first of the laws. -/
/- An arena beside blocks that it leaves alone; the document's words of slots. -/
import Derived.Test.YtpajafecodkndaaGreatClaimDir
import Derived.Test.YtpajafecodkndaaGreatClaimStep
import Derived.Test.YtpajafecodkndaaGreatArenaSin
import Derived.Test.YtpajafecodkndaaGreatPaceCall
import Derived.Deep.RegionWith
import Derived.RangeFuncRecord
import Derived.Laws.Rows
import Derived.Laws.MakeOwn
import Derived.Laws.OwnMore
set_option linter.unusedVariables false
set_option linter.unusedSimpArgs false
namespace Go.Proofs.YtpajafecodkndaaGreat
namespace Clm
open Go.RowKit Go.Maps Arn Pac

def structB (o : Option TypeDesc) : Bool := match o with | some (.struct _) => true | _ => false
theorem struct_of {o : Option TypeDesc} (h : structB o = true) : ∃ fs, o = some (.struct fs) := by
  unfold structB at h
  split at h
  · exact ⟨_, rfl⟩
  · cases h
theorem under_adr : structB (Tryz.prog.underlying 66) = true := by kernel_rfl
theorem info_adr : (Tryz.prog.info? 66).map (·.size) = some 2 := by kernel_rfl
/-- What a row of two words tells when it is loaded. -/
theorem load_adr {W : World} {k : Nat} {x y : Value} (h : W.heap[k]? = some (.cells #[x, y] 66 (0, 0))) : (loadVar 66 ⟨k, 0, none⟩).run Tryz.prog W = .ok (.agg #[x, y]) W := by
  obtain ⟨fs, hfs⟩ := struct_of under_adr
  exact run_loadVar_row W k _ _ #[x, y] (0, 0) (.struct fs) h hfs rfl info_adr
variable {W W' : World} {r b : Nat} {g : Value} {tok seg slot : Int} {own : Bool} {laid err : Int}
theorem turn_set (W : World) (r i : Nat) (v : Value) : Frm.Turn [r] W (W.setCell ⟨r, i, none⟩ v) := (Frm.Turn.refl _ W).setCell (p := ⟨r, i, none⟩) (.inl (by simp)) v
theorem turn_set2 (W : World) (r i j : Nat) (v u : Value) : Frm.Turn [r] W ((W.setCell ⟨r, i, none⟩ v).setCell ⟨r, j, none⟩ u) := (turn_set W r i v).setCell (p := ⟨r, j, none⟩) (.inl (by simp)) u

end Clm
end Go.Proofs.YtpajafecodkndaaGreat

set_option linter.unusedVariables false
set_option linter.unusedSimpArgs false
namespace Go.Proofs.YtpajafecodkndaaGreat
namespace Clm
open Go.RowKit Go.Maps Arn Pac

variable {w W W' : World} {r b n : Nat} {M : Mem} {A : Ar} {C : Cl} {g : Value}
theorem wf_small {x : Int} (h0 : 0 ≤ x) (h1 : x ≤ 100000) : (Lit.int .i64 x).wf = true := by
  simp [Lit.wf, IntKind.min, IntKind.max, IntKind.bits, IntKind.signed]; omega
theorem w64_zero : W64 0 := by unfold W64; omega
end Clm
end Go.Proofs.YtpajafecodkndaaGreat

set_option linter.unusedVariables false
set_option linter.unusedSimpArgs false
namespace Go.Proofs.YtpajafecodkndaaGreat
namespace Clm
open Go.RowKit Go.Maps Arn Pac

variable {w W W' : World} {r b n : Nat} {M : Mem} {A : Ar} {C : Cl} {g : Value}
/-- A block of noughts that was just made. -/
theorem noughts (n : Nat) (W : World) (t : TypeId) : WordsAt (W.alloc (.cells (madeCells #[.int .u64 0] n) t)) (.slice (some ⟨W.heap.size, 0, none⟩) n n) (List.replicate n 0) := by
  refine .inr ⟨⟨W.heap.size, 0, none⟩, n, by simp, fun j u hu => ?_⟩
  have h := World.alloc_heap_new W (.cells (madeCells #[.int .u64 0] n) t)
  have ha : (⟨W.heap.size, 0, none⟩ : Addr).add j = ⟨W.heap.size, j, none⟩ := by unfold Addr.add; split <;> simp_all
  rw [ha, Frm.cell_row _ _ _ _ _ _ h, ← Array.getElem?_toList, toList_madeCells_one]
  simp [u64s] at hu
  simpa using hu
theorem made_words (n : Nat) (hn : n ≤ 60000) (w : World) : (Instr.makeSlice 25 (.int .i64 (n : Int)) (.int .i64 (n : Int))).run Tryz.prog w = .ok (.slice (some ⟨w.heap.size, 0, none⟩) n n) (w.alloc (.cells (madeCells #[.int .u64 0] n) 31)) := by
  obtain ⟨i, h1, h2, h3, h4⟩ := info_parts info_u64
  have hr := run_make (P := Tryz.prog) w 25 31 i (.int .u64 0) under_u64s h1 h2 .i64 .i64 n n (by omega) (by omega) (by rw [h4]; omega) (by omega)
  simp only [Int.toNat_natCast, h3, Nat.mul_one] at hr
  exact hr
end Clm
end Go.Proofs.YtpajafecodkndaaGreat

set_option linter.unusedVariables false
set_option linter.unusedSimpArgs false
namespace Go.Proofs.YtpajafecodkndaaGreat
namespace Clm
open Go.RowKit Go.Maps Arn Pac

variable {w W W' : World} {r b n : Nat} {M : Mem} {A : Ar} {C : Cl} {g : Value}
/-- What a step needs to know of a claim. -/
structure Cl.Fit (C : Cl) : Prop where
  st : C.st ≤ 5
  slot : C.slot < 255
  tok : W64 C.tok
  seg : W64 C.seg
  laid : W64 C.laid
  five : C.st = 5 → C.seg ≠ 0
theorem Cl.Good.fit {h : Nat → Int} (hC : C.Good h) : C.Fit := ⟨hC.st, hC.slot, hC.tok64, hC.seg64, hC.laid64, fun e => (hC.seg (.inl e)).2⟩
theorem under_plc : structB (Tryz.prog.underlying 46) = true := by kernel_rfl
theorem info_plc : (Tryz.prog.info? 46).map (·.size) = some 2 := by kernel_rfl
theorem load_plc {W : World} {k : Nat} {x y : Value} (h : W.heap[k]? = some (.cells #[x, y] 46 (0, 0))) : (loadVar 46 ⟨k, 0, none⟩).run Tryz.prog W = .ok (.agg #[x, y]) W := by
  obtain ⟨fs, hfs⟩ := struct_of under_plc
  exact run_loadVar_row W k _ _ #[x, y] (0, 0) (.struct fs) h hfs rfl info_plc
end Clm
end Go.Proofs.YtpajafecodkndaaGreat

set_option linter.unusedVariables false
set_option linter.unusedSimpArgs false
namespace Go.Proofs.YtpajafecodkndaaGreat
namespace Clm
open Go.RowKit Go.Maps Arn Pac

variable {w W W' : World} {r b n : Nat} {M : Mem} {A : Ar} {C : Cl}
/-- An arena that was made since w. -/
def Arel (w : World) (b : Nat) (A : Ar) (n : Nat) (W : World) : Prop := ∃ M, Sin w b M A n W
theorem Arel.turn (h : Arel w b A n W) : Frm.Turn [] w W := h.choose_spec.turn
theorem Arel.step (h : Arel w b A n W) (ht : Frm.Turn [] W W') : Arel w b A n W' := ⟨_, h.choose_spec.step ht⟩
theorem Arel.more {m : Nat} (h : Arel w b A n W) (hm : n ≤ m) : Arel w b A m W := ⟨_, h.choose_spec.more hm⟩
/-- So many steps. -/
def runs : Nat → Ar → Cl → Ar × Cl
  | 0, A, C => (A, C)
  | n + 1, A, C => (runs n A C).2.step (runs n A C).1
def fA : Nat → Ar
  | 0 => Ar.new 99
  | k + 1 => (runs 20 (fA k) (Cl.new 7)).1
def fitB (C : Cl) : Bool := decide (C.st ≤ 5) && decide (C.slot < 255) && decide (0 ≤ C.tok ∧ C.tok < 18446744073709551616) && decide (0 ≤ C.seg ∧ C.seg < 18446744073709551616) && decide (0 ≤ C.laid ∧ C.laid < 18446744073709551616) && (decide (C.st ≠ 5) || decide (C.seg ≠ 0))
theorem fit_of {C : Cl} (h : fitB C = true) : C.Fit := by
  simp only [fitB, Bool.and_eq_true, decide_eq_true_eq, Bool.or_eq_true] at h
  obtain ⟨⟨⟨⟨⟨h1, h2⟩, h3⟩, h4⟩, h5⟩, h6⟩ := h
  exact ⟨h1, h2, h3, h4, h5, fun e => h6.resolve_left (fun h => h e)⟩
theorem first_fit : ∀ k : Fin 3, ∀ j : Fin 20, fitB (runs j.val (fA k.val) (Cl.new 7)).2 = true := by decide +kernel
theorem first_end : ∀ k : Fin 3, (runs 20 (fA k.val) (Cl.new 7)).2.own = true ∧ (runs 20 (fA k.val) (Cl.new 7)).2.slot = k.val ∧ (runs 20 (fA k.val) (Cl.new 7)).2.st = 0 ∧ (runs 20 (fA k.val) (Cl.new 7)).2.err = 0 ∧ (runs 20 (fA k.val) (Cl.new 7)).2.laid = 0 := by decide +kernel
theorem first_used : Arn.used (fA 3).L = 21 ∧ (fA 3).faults = 0 := by decide +kernel
end Clm
end Go.Proofs.YtpajafecodkndaaGreat

set_option linter.unusedVariables false
set_option linter.unusedSimpArgs false
namespace Go.Proofs.YtpajafecodkndaaGreat
namespace Clm
open Go.RowKit Go.Maps Arn Pac

variable {w W W' : World} {r b n : Nat} {K : List Nat} {A : Ar} {C : Cl}
/-- An arena that was made since w, beside blocks K that it leaves alone. -/
def Kin (w : World) (b : Nat) (K : List Nat) (A : Ar) (n : Nat) (W : World) : Prop := ∃ M, Sin w b M A n W ∧ ∀ k, k ∈ K → k ∉ M.foot b ∧ k < W.heap.size
/-- Of K nothing has turned, but r; what has turned was made since w. -/
def But (w : World) (K : List Nat) (r : Option Nat) (W W' : World) : Prop := ∃ F, Frm.Turn F W W' ∧ (∀ k, k ∈ K → some k ≠ r → k ∉ F) ∧ ∀ k, k ∈ F → w.heap.size ≤ k
theorem Kin.turn (h : Kin w b K A n W) : Frm.Turn [] w W := h.choose_spec.1.turn
theorem Kin.lt (h : Kin w b K A n W) {k : Nat} (hk : k ∈ K) : k < W.heap.size := (h.choose_spec.2 k hk).2
theorem Kin.arel (h : Kin w b K A n W) : Arel w b A n W := ⟨_, h.choose_spec.1⟩
theorem Kin.born (h : Kin w b K A n W) : A.births ≤ n := h.choose_spec.1.born
theorem Kin.ok (h : Kin w b K A n W) : A.Ok := h.choose_spec.1.at_.ok
theorem Kin.more {m : Nat} (h : Kin w b K A n W) (hm : n ≤ m) : Kin w b K A m W := by
  obtain ⟨M, h1, h2⟩ := h
  exact ⟨M, h1.more hm, h2⟩
theorem Kin.sub {K' : List Nat} (h : Kin w b K A n W) (hk : ∀ k, k ∈ K' → k ∈ K) : Kin w b K' A n W := by
  obtain ⟨M, h1, h2⟩ := h
  exact ⟨M, h1, fun k hk' => h2 k (hk k hk')⟩
/-- Blocks of K turn, or none. -/
theorem Kin.poke {G : List Nat} (h : Kin w b K A n W) (ht : Frm.Turn G W W') (hG : ∀ k, k ∈ G → k ∈ K ∧ w.heap.size ≤ k) : Kin w b K A n W' := by
  obtain ⟨M, h1, h2⟩ := h
  have := ht.size
  exact ⟨M, h1.apart ht (fun k hk hk' => (h2 k (hG k hk').1).1 hk) (fun k hk => (hG k hk).2), fun k hk => ⟨(h2 k hk).1, by have := (h2 k hk).2; omega⟩⟩
theorem Kin.step (h : Kin w b K A n W) (ht : Frm.Turn [] W W') : Kin w b K A n W' := h.poke ht (by simp)
theorem Kin.add (h : Kin w b K A n W) (ht : Frm.Turn [] W W') {k : Nat} (h1 : W.heap.size ≤ k) (h2 : k < W'.heap.size) : Kin w b (k :: K) A n W' := by
  obtain ⟨M, h3, h4⟩ := h
  have := ht.size
  refine ⟨M, h3.step ht, fun j hj => ?_⟩
  rcases List.mem_cons.1 hj with rfl | hj
  · exact ⟨fun hk => by have := h3.lt hk; omega, h2⟩
  · exact ⟨(h4 j hj).1, by have := (h4 j hj).2; omega⟩
theorem But.of (h : Frm.Turn [] W W') : But w K none W W' := ⟨[], h, by simp, by simp⟩
theorem But.pre {W0 : World} {o : Option Nat} (h : But w K o W W') (ht : Frm.Turn [] W0 W) : But w K o W0 W' := by
  obtain ⟨F, hT, h1, h2⟩ := h
  exact ⟨F, (ht.mono (by simp)).trans hT (fun k hk => .inl hk), h1, h2⟩
theorem But.heap {k : Nat} {o : Obj} (h : But w K (some r) W W') (hk : k ∈ K) (hr : k ≠ r) (ho : W.heap[k]? = some o) : W'.heap[k]? = some o := by
  obtain ⟨F, hT, h1, _⟩ := h
  exact hT.keep ho (h1 k hk (by simpa using hr))
theorem But.heap0 {k : Nat} {o : Obj} (h : But w K none W W') (hk : k ∈ K) (ho : W.heap[k]? = some o) : W'.heap[k]? = some o := by
  obtain ⟨F, hT, h1, _⟩ := h
  exact hT.keep ho (h1 k hk (by simp))
theorem But.low (h : But w K (some r) W W') : W.heap.size ≤ W'.heap.size := h.choose_spec.1.size
theorem But.row {e : TypeId} {size m : Nat} {v : Value} {xs : List Value} {o : Option Nat} (h : But w K o W W') (hv : ∀ k, v.ownBlock = some k → k ∈ K ∧ some k ≠ o) (hr : W.ownsRow w.heap.size e size v m xs) : W'.ownsRow w.heap.size e size v m xs := by
  obtain ⟨F, hT, h1, _⟩ := h
  exact Frm.owns_turn hr hT (fun k hk => h1 k (hv k hk).1 (hv k hk).2)
/-- What lay there ahead of w stays. -/
theorem But.old {o : Option Nat} {a : Addr} {v : Value} (h : But w K o W W') (ha : a.block < w.heap.size) (hc : W.cell? a = some v) : W'.cell? a = some v := by
  obtain ⟨F, hT, _, h2⟩ := h
  exact hT.cell hc (fun hk => by have := h2 _ hk; omega)
theorem kin_write (h : Kin w b K A n W) (hn : n ≤ 10000000) (blk i v : Int) (hb : W64 blk) (hi : (Lit.int .i64 i).wf = true) (hv : W64 v) :
    Calls Tryz.prog 15 #[.pointer (some ⟨b, 0, none⟩), .agg #[.int .u64 blk, .int .i64 i], .int .u64 v] W fun e w' => e = .returned (.int .i64 (A.write blk i v).2) ∧ Kin w b K (A.write blk i v).1 (n + 1) w' ∧ But w K none W w' := by
  obtain ⟨M, h1, h2⟩ := h
  refine (sin_write h1 (by omega) blk i v hb hi hv).mono ?_
  rintro e w' ⟨he, M', k1, k4, k5⟩
  have hsz := k4.size
  refine ⟨he, ⟨M', k1, fun k hk => ⟨fun hk' => ?_, by have := (h2 k hk).2; omega⟩⟩, ⟨_, k4, fun k hk hne hk' => (h2 k hk).1 hk', fun k hk => h1.new k hk⟩⟩
  rcases k5 k hk' with e1 | e1
  · exact (h2 k hk).1 e1
  · have := (h2 k hk).2; omega
/-! ### the document's words -/
theorem two_mul_pow (k : Nat) : 2 ^ (k + 1) = 2 * 2 ^ k := by rw [Nat.pow_succ]; omega
set_option maxRecDepth 100000 in
theorem Pow_any (g : Nat) (W : World) (h : g ≤ 8) : Calls Tryz.prog 60 #[.int .i64 g] W fun e w' => e = .returned (.int .i64 ((2 ^ g : Nat) : Int)) ∧ W = w' := by
  go_enter Tryz.func60, Tryz.ntmps60
  go_wp2_with fail
  go_loopw [3, 4] (fun p i wr => ∃ (k : Nat) (y : Int), k ≤ g ∧ i = .int .i64 k ∧ p = .int .i64 y ∧ y = ((2 ^ k : Nat) : Int) ∧ W = wr) (fun _ i _ => g - (intOf i).toNat)
  case atStart => exact ⟨0, 1, Nat.zero_le _, rfl, rfl, rfl, rfl⟩
  case round =>
    obtain ⟨k, y, hk, rfl, rfl, hy, rfl⟩ := hrel
    have hp : 2 ^ k ≤ 2 ^ 8 := Nat.pow_le_pow_right (by omega) (by omega)
    have hy0 : 0 ≤ y := by rw [hy]; exact Int.natCast_nonneg _
    have hy1 : y ≤ 256 := by omega
    have HY := Lib.hid hy
    clear hy hp
    by_cases hlt : k < g
    · have hk1 : (k : Int) < (g : Int) := by omega
      go_wp2_with fail
      refine ⟨⟨k + 1, 2 * y, by omega, by simp, rfl, by rw [HY.out, two_mul_pow]; omega, by simp⟩, ?_⟩
      simp [intOf]; omega
    · obtain rfl : k = g := by omega
      go_wp2_with fail
      go_ret
      rw [HY.out]
      exact ⟨rfl, rfl⟩
theorem sg_least {s k : Nat} (h : s < 255) (hk : k ≤ sgN s) : 2 ^ k ≤ s + 1 := by
  have := sg_facts h
  have h2 : 2 ^ k ≤ 2 ^ sgN s := Nat.pow_le_pow_right (by omega) hk
  omega
set_option maxRecDepth 100000 in
set_option maxHeartbeats 1000000 in
theorem RSegment_any (s : Nat) (W : World) (h : s < 255) : Calls Tryz.prog 98 #[.int .i64 s] W fun e w' => e = .returned (.tuple #[.int .i64 (sgN s), .int .i64 (ofN s)]) ∧ W = w' := by
  obtain ⟨q1, q2, q3, q4, q5⟩ := sg_facts h
  have HP := Lib.hid (fun (g : Nat) (hg : g ≤ 8) W => Pow_any g W hg)
  go_enter Tryz.func98, Tryz.ntmps98
  go_wp2_with fail
  go_loopw [0, 4] (fun x i wr => ∃ (k : Nat) (y : Int), k ≤ sgN s ∧ i = .int .i64 k ∧ x = .int .i64 y ∧ y = (s : Int) + 1 - ((2 ^ k : Nat) : Int) ∧ W = wr) (fun _ i _ => sgN s - (intOf i).toNat)
  case atStart => exact ⟨0, s, Nat.zero_le _, rfl, rfl, by simp, rfl⟩
  case round =>
    obtain ⟨k, y, hk, rfl, rfl, hy, rfl⟩ := hrel
    have hle := sg_least h hk
    have hpk := Nat.pow_le_pow_right (show 0 < 2 by omega) hk
    have HPK := Lib.hid (HP.out k (by omega) W)
    have HS := Lib.hid (two_mul_pow k)
    obtain ⟨p, hp⟩ : ∃ p : Int, p = ((2 ^ k : Nat) : Int) := ⟨_, rfl⟩
    rw [← hp] at HPK hy
    have hp0 : 1 ≤ p := by have : 1 ≤ 2 ^ k := Nat.one_le_two_pow; omega
    have hp1 : p ≤ 255 := by omega
    have hy0 : 0 ≤ y := by omega
    have hy1 : y ≤ 255 := by omega
    by_cases hlt : k < sgN s
    · have hge : p ≤ y := by
        have h2 : 2 ^ (k + 1) ≤ s + 1 := sg_least h hlt
        rw [two_mul_pow] at h2
        omega
      have HY := Lib.hid (And.intro hy hp)
      have hk8 : (k : Int) ≤ 8 := by omega
      clear hy hp hle hpk q1 q2 q3 q4 q5
      go_wp2_with (go_at_call 60; (with_reducible refine (HPK.out).mono ?_); rintro e w1 ⟨rfl, rfl⟩)
      refine ⟨⟨k + 1, y - p, by omega, by simp, rfl, by have := HY.out.1; have := HY.out.2; have := HS.out; omega, by simp⟩, ?_⟩
      simp [intOf]; omega
    · obtain rfl : k = sgN s := by omega
      have hlt2 : y < p := by unfold ofN at q3; omega
      have HY : Hid (y = (ofN s : Int)) := Lib.hid (by unfold ofN; omega)
      clear hy hp hle hpk q1 q2 q3 q4 q5
      go_wp2_with (go_at_call 60; (with_reducible refine (HPK.out).mono ?_); rintro e w1 ⟨rfl, rfl⟩)
      go_ret2
      rw [HY.out]
      exact ⟨rfl, rfl⟩
set_option maxRecDepth 100000 in
theorem RWord_any (seg : Int) (s : Nat) (W : World) (h : s < 255) : Calls Tryz.prog 52 #[.agg #[.int .u64 seg, .int .i64 s], .int .i64 0] W fun e w' => e = .returned (.agg #[.int .u64 seg, .int .i64 (5 * (ofN s : Int))]) ∧ Frm.Turn [] W w' := by
  have H1 := Lib.hid (fun W => RSegment_any s W h)
  obtain ⟨q1, q2, q3, q4, q5⟩ := sg_facts h
  have b0 : (0 : Int) ≤ (ofN s : Int) := by omega
  have b1 : (ofN s : Int) ≤ 127 := by omega
  have HT : Hid (∀ o o', Frm.Turn [] W ((W.alloc o).alloc o')) := Lib.hid (fun o o' => ((Frm.Turn.refl [] W).alloc o).alloc o')
  generalize (ofN s : Int) = x at H1 b0 b1 ⊢
  generalize (sgN s : Int) = g at H1
  generalize (s : Int) = y at H1 ⊢
  clear q1 q2 q3 q4 q5 h
  go_enter Tryz.func52, Tryz.ntmps52
  go_wp2_with (first
    | (go_at_call 98; (with_reducible refine (H1.out _).mono ?_); rintro e w1 ⟨rfl, rfl⟩))
  have hn := World.alloc_heap_new (W.alloc (.cells #[.int .u64 seg, .int .i64 y] 46)) (.cells #[.int .u64 seg, .int .i64 (5 * x)] 66)
  rw [World.size_alloc] at hn
  have hld := load_adr hn
  exact bodyPost_ret (v := .agg #[.int .u64 seg, .int .i64 (5 * x)]) (by simp [results, Tryz.results52, asAddr, hld, Act.put]) rfl ⟨rfl, HT.out _ _⟩
end Clm
end Go.Proofs.YtpajafecodkndaaGreat
