/- A count in memory; its calls that touch no arena. -/
import Derived.Test.YtfbnidjcimcfoaaGreatClaimKin
import Derived.Test.YtfbnidjcimcfoaaGreatDirPath
import Derived.Test.YtfbnidjcimcfoaaGreatCountBackPlain
import Derived.BigQuiet
import Derived.Deep.RegionWith
set_option linter.unusedVariables false
set_option linter.unusedSimpArgs false
namespace Go.Proofs.YtfbnidjcimcfoaaGreat
namespace Cnt
open Go.RowKit Go.Maps Arn Pac Clm

set_option maxRecDepth 100000 in
set_option maxHeartbeats 4000000 in
/-- A node's counter. -/
theorem Counter_n (seg : Int) (g m : Nat) (w : World) (hg : g < 8) (h1 : 1 ≤ m) (h2 : m < 2 * 2 ^ g) (hz : (seg != 0) = true) :
    Calls Tryz.prog 136 #[.int .u64 seg, .int .i64 g, .int .i64 m] w fun e w' => e = .returned (.tuple #[.agg #[.int .u64 seg, .int .i64 ((5 * 2 ^ g + m : Nat) : Int)], .bool true]) ∧ Frm.Turn [] w w' := by
  have H1 := Lib.hid (fun W => slots_n g W hg)
  have H2 := Lib.hid (fun W => counters_n g W hg)
  have H3 := Lib.hid (fun W => isThere_n seg W hz)
  obtain ⟨r0, r1⟩ := pow_le hg
  rw [show ((5 * 2 ^ g + m : Nat) : Int) = ((2 ^ g : Nat) : Int) * 5 + (m : Int) by omega]
  have q0 : (1 : Int) ≤ ((2 ^ g : Nat) : Int) := by omega
  have q1 : ((2 ^ g : Nat) : Int) ≤ 128 := by omega
  have q2 : (1 : Int) ≤ (m : Int) := by omega
  have q3 : (m : Int) < 2 * ((2 ^ g : Nat) : Int) := by omega
  have HT : Hid (∀ o, Frm.Turn [] w (w.alloc o)) := Lib.hid (fun o => (Frm.Turn.refl [] w).alloc o)
  clear r0 r1 h1 h2 hg hz
  generalize ((2 ^ g : Nat) : Int) = p at H1 H2 q0 q1 q3 ⊢
  generalize (m : Int) = y at q2 q3 ⊢
  generalize (g : Int) = gi at H1 H2 ⊢
  have q4 : ¬ y < 1 := by omega
  have q5 : ¬ 2 * p ≤ y := by omega
  go_enter Tryz.func136, Tryz.ntmps136
  go_wp2_with (first
    | (go_at_call 123; (with_reducible refine (H1.out _).mono ?_); rintro e w1 ⟨rfl, rfl⟩)
    | (go_at_call 143; (with_reducible refine (H2.out _).mono ?_); rintro e w1 ⟨rfl, rfl⟩)
    | (go_at_call 125; (with_reducible refine (H3.out _).mono ?_); rintro e w1 ⟨rfl, rfl⟩))
  refine bodyPost_ret (v := .tuple #[.agg #[.int .u64 seg, .int .i64 (p * 5 + y)], .bool true]) (by simp [results, Tryz.results136, go_sem]) rfl ⟨rfl, ?_⟩
  first | exact HT.out _ | exact ((HT.out _).setCell (p := ⟨w.heap.size, 0, none⟩) (.inr (Nat.le_refl _)) _).setCell (p := ⟨w.heap.size, 1, none⟩) (.inr (Nat.le_refl _)) _
/-- A path's row. -/
def PathAt (W : World) (q s : Nat) : Prop := ∀ k, k < kN s → W.cell? ⟨q, k, none⟩ = some (.int .i64 (ndN s k))
theorem PathAt.turn {W W' : World} {q s : Nat} {F : List Nat} (h : PathAt W q s) (ht : Frm.Turn F W W') (hn : q ∉ F) : PathAt W' q s := fun k hk => ht.cell (h k hk) hn
theorem cell_in {w : World} {a : Addr} {v : Value} (h : w.cell? a = some v) : a.block < w.heap.size := by
  unfold World.cell? at h
  cases hb : w.heap[a.block]? with
  | none => rw [hb] at h; cases h
  | some o => exact (Array.getElem?_eq_some_iff.1 hb).1
theorem PathAt.lt {W : World} {q s : Nat} (h : PathAt W q s) : q < W.heap.size := cell_in (h 0 (by unfold kN; omega))
theorem len_fin : ∀ s : Fin 255, Go.Lib.bitLen (s.val + 1) = kN s.val := by decide +kernel
theorem Path_n (s : Nat) (w : World) (h : s < 255) :
    Calls Tryz.prog 79 #[.int .i64 s] w fun e w' => ∃ q c, e = .returned (.slice (some ⟨q, 0, none⟩) (kN s) c) ∧ w.heap.size ≤ q ∧ q < w'.heap.size ∧ PathAt w' q s ∧ Frm.Turn [] w w' := by
  refine (Dr.Path_yes s w (by omega) (by omega)).mono ?_
  rintro e w' ⟨v, rfl, hr, hT⟩
  have e1 : ((s : Int) + 1).toNat = s + 1 := by omega
  have e2 : Go.Lib.bitLen (s + 1) = kN s := len_fin ⟨s, h⟩
  rw [e1, e2] at hr
  have h1 := kN_le h
  rcases hr.2 with ⟨hv, hz⟩ | ⟨q, cap, cur, rfl, hb, hh, hrest⟩
  · omega
  · have hlt := hr.lt q rfl
    refine ⟨q, cap, rfl, hb, hlt.2, fun k hk => ?_, hT⟩
    have h2 := hr.cellAt k (by have := hr.1; omega)
    rw [h2, Dr.pathV_get hk]
    unfold Dr.nd ndN
    rw [e1]
theorem held_any (x : Int) (m : Nat) (w : World) (h0 : -1000000 ≤ x) (h1 : x ≤ 1000000) (hm : m ≤ 1000) :
    Calls Tryz.prog 100 #[.int .i64 x, .int .i64 m] w fun e w' => e = .returned (.int .i64 ((min x.toNat m : Nat) : Int)) ∧ w = w' := by
  obtain ⟨y, hy⟩ : ∃ y : Int, y = (m : Int) := ⟨_, rfl⟩
  obtain ⟨z, hz⟩ : ∃ z : Int, z = ((min x.toNat m : Nat) : Int) := ⟨_, rfl⟩
  have hc : (x < 0 ∧ z = 0) ∨ (x = 0 ∧ z = 0) ∨ (0 < x ∧ x < y ∧ z = x) ∨ (0 < x ∧ x = y ∧ z = x) ∨ (0 < x ∧ y < x ∧ z = y) := by omega
  rw [← hy, ← hz]
  have hy0 : 0 < y ∨ y = 0 := by omega
  clear hz hy
  rcases hc with ⟨h1, rfl⟩ | ⟨rfl, rfl⟩ | ⟨h1, h2, rfl⟩ | ⟨h1, rfl, rfl⟩ | ⟨h1, h2, rfl⟩
  all_goals rcases hy0 with hy0 | rfl
  all_goals first | (exfalso; omega) | skip
  all_goals
    go_enter Tryz.func100, Tryz.ntmps100
    go_wp2
    go_ret
    first
      | exact ⟨rfl, rfl⟩
      | (refine ⟨congrArg (fun u => Ending.returned (Value.int .i64 u)) ?_, rfl⟩; omega)
/-- What comes next. -/
def nxC (r : Nat) (C : Ct) : Value := if C.first < C.last then .func (.func 121) #[.pointer (some ⟨r, 0, none⟩)] #[] else .nilFunc
theorem nxC_fn (r : Nat) (C : Ct) : IsFn (nxC r C) := by
  unfold nxC
  split
  · exact isFn_func _ _ _
  · exact isFn_nil
def CtBody (W : World) (r b q c : Nat) (g : Value) (C : Ct) : Prop :=
  W.heap[r]? = some (.cells #[g, .pointer (some ⟨b, 0, none⟩), .int .u64 C.seg, .int .i64 C.slot, .slice (some ⟨q, 0, none⟩) (kN C.slot) c, .int .i64 C.first, .int .i64 C.last, .int .u64 C.more] 148 (0, 0))
variable {w W W' : World} {r b q c n : Nat} {M : Mem} {A : Ar} {C : Ct} {g : Value}
theorem CtBody.cells (h : CtBody W r b q c g C) : W.cell? ⟨r, 0, none⟩ = some g ∧ W.cell? ⟨r, 1, none⟩ = some (.pointer (some ⟨b, 0, none⟩)) ∧ W.cell? ⟨r, 2, none⟩ = some (.int .u64 C.seg) ∧ W.cell? ⟨r, 3, none⟩ = some (.int .i64 C.slot) ∧
    W.cell? ⟨r, 4, none⟩ = some (.slice (some ⟨q, 0, none⟩) (kN C.slot) c) ∧ W.cell? ⟨r, 5, none⟩ = some (.int .i64 C.first) ∧ W.cell? ⟨r, 6, none⟩ = some (.int .i64 C.last) ∧ W.cell? ⟨r, 7, none⟩ = some (.int .u64 C.more) := by
  unfold CtBody at h
  refine ⟨?_, ?_, ?_, ?_, ?_, ?_, ?_, ?_⟩ <;> simp [World.cell?, h]
theorem CtBody.thaw (h : CtBody W r b q c g C) (i : Nat) : W.frozen? ⟨r, i, none⟩ = false := Frm.frozen_row W r i _ _ h
theorem CtBody.turn {F : List Nat} (h : CtBody W r b q c g C) (ht : Frm.Turn F W W') (hn : r ∉ F) : CtBody W' r b q c g C := ht.keep h hn
theorem CtBody.lt (h : CtBody W r b q c g C) : r < W.heap.size := (Array.getElem?_eq_some_iff.1 h).1
theorem CtBody.set0 (h : CtBody W r b q c g C) (y : Value) : CtBody (W.setCell ⟨r, 0, none⟩ y) r b q c y C := by
  unfold CtBody at h ⊢; rw [Frm.heap_set _ _ _ _ _ _ _ h]; simp
theorem CtBody.set5 (h : CtBody W r b q c g C) (y : Nat) : CtBody (W.setCell ⟨r, 5, none⟩ (.int .i64 y)) r b q c g { C with first := y } := by
  unfold CtBody at h ⊢; rw [Frm.heap_set _ _ _ _ _ _ _ h]; simp
/-- A count: its struct at r, its path's row at q. -/
structure CtAt (W : World) (r b q : Nat) (C : Ct) : Prop where
  body : ∃ c, CtBody W r b q c (nxC r C) C
  path : PathAt W q C.slot
theorem CtAt.turn {F : List Nat} (h : CtAt W r b q C) (ht : Frm.Turn F W W') (hr : r ∉ F) (hq : q ∉ F) : CtAt W' r b q C := ⟨⟨_, h.body.choose_spec.turn ht hr⟩, h.path.turn ht hq⟩
theorem CtAt.lt (h : CtAt W r b q C) : r < W.heap.size ∧ q < W.heap.size := ⟨h.body.choose_spec.lt, h.path.lt⟩
theorem set0_any (h : CtBody W r b q c g C) (hT : Frm.Turn [] W W') (v : Value) (hv : IsFn v) :
    Calls Tryz.prog 52 #[.pointer (some ⟨r, 0, none⟩), v] W' fun e w' => e = .returned (.tuple #[]) ∧ CtBody w' r b q c v C ∧ Frm.Turn [r] W w' := by
  have h' := h.turn hT (by simp)
  refine (to_any r v g W' hv h'.cells.1 (h'.thaw 0)).mono ?_
  rintro e w' ⟨he, rfl⟩
  exact ⟨he, h'.set0 v, (hT.mono (by simp)).trans (turn_set W' r 0 v) (fun k hk => .inl hk)⟩
theorem end0_any (h : CtBody W r b q c g C) (hT : Frm.Turn [] W W') :
    Calls Tryz.prog 98 #[.pointer (some ⟨r, 0, none⟩)] W' fun e w' => e = .returned (.tuple #[]) ∧ CtBody w' r b q c .nilFunc C ∧ Frm.Turn [r] W w' := by
  have h' := h.turn hT (by simp)
  refine (end_any r g W' h'.cells.1 (h'.thaw 0)).mono ?_
  rintro e w' ⟨he, rfl⟩
  exact ⟨he, h'.set0 _, (hT.mono (by simp)).trans (turn_set W' r 0 _) (fun k hk => .inl hk)⟩
set_option maxRecDepth 100000 in
/-- goOn. -/
theorem goOn_any (h : CtBody W r b q c g C) : Calls Tryz.prog 101 #[.pointer (some ⟨r, 0, none⟩)] W fun e w' => e = .returned (.tuple #[]) ∧ CtBody w' r b q c (nxC r C) C ∧ Frm.Turn [r] W w' := by
  have HE := Lib.hid (fun W' (hT : Frm.Turn [] W W') (v : Value) (hv : IsFn v) => set0_any h hT v hv)
  have HN := Lib.hid (fun W' (hT : Frm.Turn [] W W') => end0_any h hT)
  have HD := Lib.hid ((Frm.Turn.refl [] W).drew)
  have hmk := hmf
  obtain ⟨c0, c1, c2, c3, c4, c5, c6, c7⟩ := h.cells
  clear h
  by_cases hlt : C.first < C.last
  · have e0 : nxC r C = .func (.func 121) #[.pointer (some ⟨r, 0, none⟩)] #[] := by unfold nxC; rw [if_pos hlt]
    rw [e0]
    have hlt' : (C.first : Int) < (C.last : Int) := by omega
    have HE1 := Lib.hid (HE.out _ HD.out _ (isFn_func (.func 121) #[.pointer (some ⟨r, 0, none⟩)] #[]))
    clear e0 hlt HE HN
    generalize (C.first : Int) = x at c5 hlt'
    generalize (C.last : Int) = y at c6 hlt'
    go_enter Tryz.func101, Tryz.ntmps101
    go_wp2_with fail
    go_region
    all_goals go_wp2_with (go_at_call 52; (with_reducible refine (HE1.out).mono ?_); rintro e w1 ⟨rfl, hb, hT⟩)
    all_goals go_end0
    all_goals exact ⟨rfl, hb, hT⟩
  · have e0 : nxC r C = .nilFunc := by unfold nxC; rw [if_neg hlt]
    rw [e0]
    have hlt' : ¬ (C.first : Int) < (C.last : Int) := by omega
    have HE1 := Lib.hid (HN.out _ HD.out)
    clear e0 hlt HE HN
    generalize (C.first : Int) = x at c5 hlt'
    generalize (C.last : Int) = y at c6 hlt'
    go_enter Tryz.func101, Tryz.ntmps101
    go_wp2_with fail
    go_region
    all_goals go_wp2_with (go_at_call 98; (with_reducible refine (HE1.out).mono ?_); rintro e w1 ⟨rfl, hb, hT⟩)
    all_goals go_end0
    all_goals exact ⟨rfl, hb, hT⟩
end Cnt
end Go.Proofs.YtfbnidjcimcfoaaGreat
