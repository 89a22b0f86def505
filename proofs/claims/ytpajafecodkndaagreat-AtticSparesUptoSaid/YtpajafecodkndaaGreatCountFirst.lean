/- What the laws of layer 12 go by: places, the document's paths and counters, a count beside an arena. -/
/- The document's paths; first of law 12. -/
/- first of law 12. -/
import Derived.Test.YtpajafecodkndaaGreatCountSegsWalk
import Derived.Deep.DeepMust
set_option linter.unusedVariables false
set_option linter.unusedSimpArgs false
namespace Go.Proofs.YtpajafecodkndaaGreat
namespace Cnt
open Go.RowKit Go.Maps Arn Pac Clm

variable {w W W' : World} {b n k r q : Nat} {K : List Nat} {A : Ar} {C : Ct}
theorem but_cell0 {a : Addr} {v : Value} {o : Option Nat} (h : But w K o W W') (hk : a.block ∈ K) (ho : some a.block ≠ o) (hc : W.cell? a = some v) : W'.cell? a = some v := by
  obtain ⟨F, hT, g1, _⟩ := h
  exact hT.cell hc (g1 _ hk ho)
theorem but_subK {K' : List Nat} {o : Option Nat} (h : But w K o W W') (hk : ∀ k, k ∈ K' → k ∈ K) : But w K' o W W' := by
  obtain ⟨F, hT, h1, h2⟩ := h
  exact ⟨F, hT, fun k hk' => h1 k (hk k hk'), h2⟩
/-- The handles' row. -/
def HsAt (W : World) (kh n : Nat) : Prop := ∀ g, g < n → W.cell? ⟨kh, g, none⟩ = some (.int .u64 (hS g))
theorem hs_of {base : Nat} {v : Value} (h : W.ownsRow base 31 1 v n (hsV n)) (hn : 0 < n) : ∃ kh c, v = .slice (some ⟨kh, 0, none⟩) n c ∧ HsAt W kh n ∧ base ≤ kh ∧ kh < W.heap.size := by
  rcases h.2 with ⟨hv, hz⟩ | ⟨g, cap, cur, rfl, hb, hh, hrest⟩
  · omega
  · refine ⟨g, cap, rfl, fun x hx => ?_, hb, (h.lt g rfl).2⟩
    have h2 := h.cellAt x (by have := h.1; omega)
    rw [h2, hsV_get hx]
theorem HsAt.turn {kh : Nat} {F : List Nat} (h : HsAt W kh n) (ht : Frm.Turn F W W') (hn : kh ∉ F) : HsAt W' kh n := fun g hg => ht.cell (h g hg) hn
theorem HsAt.but {kh : Nat} {o : Option Nat} (h : HsAt W kh n) (hb : But w K o W W') (hk : kh ∈ K) (ho : some kh ≠ o) : HsAt W' kh n := fun g hg => but_cell0 hb hk ho (h g hg)
/-- The document's counter. -/
theorem RCounter_any (seg : Int) (g m : Nat) (W : World) (hg : g < 8) (hm : m ≤ 1000) :
    Calls Tryz.prog 100 #[.int .u64 seg, .int .i64 g, .int .i64 m] W fun e w' => e = .returned (.agg #[.int .u64 seg, .int .i64 ((5 * 2 ^ g + m : Nat) : Int)]) ∧ Frm.Turn [] W w' := by
  have HP := Lib.hid (fun W => Pow_any g W (by omega))
  obtain ⟨p0, p1⟩ := pow_le hg
  rw [show ((5 * 2 ^ g + m : Nat) : Int) = 5 * ((2 ^ g : Nat) : Int) + (m : Int) by omega]
  have q0 : (1 : Int) ≤ ((2 ^ g : Nat) : Int) := by omega
  have q1 : ((2 ^ g : Nat) : Int) ≤ 128 := by omega
  have q2 : (0 : Int) ≤ (m : Int) := by omega
  have q3 : (m : Int) ≤ 1000 := by omega
  have HT : Hid (∀ o, Frm.Turn [] W (W.alloc o)) := Lib.hid (fun o => (Frm.Turn.refl [] W).alloc o)
  clear p0 p1 hg hm
  generalize ((2 ^ g : Nat) : Int) = p at HP q0 q1 ⊢
  generalize (m : Int) = y at q2 q3 ⊢
  generalize (g : Int) = gi at HP ⊢
  go_enter Tryz.func100, Tryz.ntmps100
  go_wp2_with (go_at_call 60; (with_reducible refine (HP.out _).mono ?_); rintro e w1 ⟨rfl, rfl⟩)
  have hld := load_adr (World.alloc_heap_new W (.cells #[.int .u64 seg, .int .i64 (5 * p + y)] 66))
  refine bodyPost_ret (v := .agg #[.int .u64 seg, .int .i64 (5 * p + y)]) (by simp [results, Tryz.results100, asAddr, hld, Act.put]) rfl ⟨rfl, ?_⟩
  exact HT.out _
end Cnt
end Go.Proofs.YtpajafecodkndaaGreat

set_option linter.unusedVariables false
set_option linter.unusedSimpArgs false
namespace Go.Proofs.YtpajafecodkndaaGreat
namespace Cnt
open Go.RowKit Go.Maps Arn Pac Clm

variable {w W W' : World} {b n k r q : Nat} {K : List Nat} {A : Ar} {C : Ct}
/-- A row of nodes, k + 1 of them. -/
def NdRow (w : World) (s k : Nat) (v : Value) (W : World) : Prop := ∃ g c, v = .slice (some ⟨g, 0, none⟩) (k + 1) c ∧ W.ownsRow w.heap.size 3 1 v (k + 1) ((List.range (k + 1)).map fun i => .int .i64 (ndN s i)) ∧ Frm.Turn [] w W
def lenOf (v : Value) : Nat := match v with | .slice _ n _ => n | _ => 0
theorem nd_row0 (s : Nat) (w W : World) (hT : Frm.Turn [] w W) : NdRow w s 0 (.slice (some ⟨W.heap.size, 0, none⟩) 1 1) (W.alloc (.cells #[.int .i64 ((s : Int) + 1)] 3)) := by
  refine ⟨_, _, rfl, ⟨by simp, .inr ⟨_, 1, _, rfl, hT.size, World.alloc_heap_new W _, Nat.le_refl _, by unfold maxLen; omega, rfl, ?_⟩⟩, hT.alloc _⟩
  simp [ndN]
theorem ndN_half (s k : Nat) : ndN s (k + 1) = ndN s k / 2 := by unfold ndN; rw [Nat.pow_succ, ← Nat.div_div_eq_div_mul]
theorem nd_one_fin : ∀ s : Fin 255, ∀ k : Fin 8, k.val ≤ sgN s.val → (ndN s.val k.val ≤ 1 ↔ k.val = sgN s.val) := by decide +kernel
set_option maxRecDepth 100000 in
set_option maxHeartbeats 4000000 in
theorem RPath_any (s : Nat) (w : World) (h : s < 255) :
    Calls Tryz.prog 99 #[.int .i64 s] w fun e w' => ∃ v, e = .returned v ∧ NdRow w s (sgN s) v w' := by
  obtain ⟨i0, hi0, hz0, hz1, hz2⟩ := Dr.info_parts Dr.info_int
  obtain ⟨q1, q2, q3, q4, q5⟩ := sg_facts h
  have HS := Lib.hid (fun W => RSegment_any s W h)
  have HP := Lib.hid (fun W => Pow_any (sgN s) W (by omega))
  have e1 : ((2 ^ sgN s : Nat) : Int) + (ofN s : Int) = (s : Int) + 1 := by omega
  have p0 : (1 : Int) ≤ ((2 ^ sgN s : Nat) : Int) := by omega
  have p1 : ((2 ^ sgN s : Nat) : Int) ≤ 128 := by omega
  have o0 : (0 : Int) ≤ (ofN s : Int) := by omega
  have o1 : (ofN s : Int) ≤ 127 := by omega
  have H0 := Lib.hid (nd_row0 s w w (Frm.Turn.refl [] w))
  have HQ := Lib.hid q1
  have HLT := Lib.hid h
  generalize ((2 ^ sgN s : Nat) : Int) = p at HP e1 p0 p1
  generalize (ofN s : Int) = o at HS e1 o0 o1
  clear q1 q2 q3 q4 q5 h
  go_enter Tryz.func99, Tryz.ntmps99
  go_wp2_with (first
    | (go_at_call 98; (with_reducible refine (HS.out _).mono ?_); rintro e w1 ⟨rfl, rfl⟩)
    | (go_at_call 60; (with_reducible refine (HP.out _).mono ?_); rintro e w1 ⟨rfl, rfl⟩))
  go_loopw [5] (fun v wr => ∃ k : Nat, k ≤ sgN s ∧ NdRow w s k v wr) (fun v _ => 9 - lenOf v)
  case atStart => exact ⟨0, Nat.zero_le _, H0.out⟩
  case round =>
    obtain ⟨k, hk, g, c, rfl, hrow, hT⟩ := hrel
    have hk8 : k < 8 := by have := HQ.out; omega
    have hcell := hrow.cellAt k (by omega)
    have hget : ((List.range (k + 1)).map fun i => Value.int .i64 (ndN s i : Int))[k]? = some (.int .i64 (ndN s k)) := by simp
    rw [hget] at hcell
    have hcell : wr.cell? ⟨g, k, none⟩ = some (.int .i64 (ndN s k)) := hcell
    have hone := nd_one_fin ⟨s, HLT.out⟩ ⟨k, hk8⟩ hk
    dsimp only at hone
    have hix : ((k + 1 : Nat) : Int) - 1 = (k : Int) := by omega
    have hk1 : (k : Int) < ((k + 1 : Nat) : Int) := by omega
    have hk0 : (0 : Int) ≤ (k : Int) := by omega
    have HROW := Lib.hid hrow
    have HT := Lib.hid hT
    by_cases hlast : k = sgN s
    · have hle : ¬ 1 < (ndN s k : Int) := by have := hone.2 hlast; omega
      have HL := Lib.hid hlast
      clear hone hlast hrow hT hk
      go_wp2
      go_ret
      rw [← HL.out]
      exact ⟨_, rfl, g, c, rfl, HROW.out, HT.out⟩
    · have hgt : 1 < (ndN s k : Int) := by
        have : ¬ ndN s k ≤ 1 := fun e => hlast (hone.1 e)
        omega
      have hle2 : (ndN s k : Int) ≤ 255 := by
        have : ndN s k ≤ s + 1 := Nat.div_le_self _ _
        have := HLT.out; omega
      obtain ⟨y, hy⟩ : ∃ y : Int, y = (ndN s (k + 1) : Int) := ⟨_, rfl⟩
      have hdiv : Int.tdiv (ndN s k : Int) 2 = y := by
        rw [hy, ndN_half, Int.tdiv_eq_ediv_of_nonneg (by omega)]; omega
      have y0 : 0 ≤ y := by omega
      have y1 : y ≤ 255 := by rw [hy, ndN_half]; omega
      have HY := Lib.hid hy
      have HB : Hid (w.heap.size ≤ (wr.alloc (.cells #[.int .i64 y] 3)).heap.size) := Lib.hid (by have := hT.size; simp; omega)
      have HR := Lib.hid (Frm.owns_turn hrow ((Frm.Turn.refl [] wr).alloc (.cells #[.int .i64 y] 3)) (by simp))
      have HK : Hid (k + 1 ≤ sgN s) := Lib.hid (by omega)
      have hk8' : (k : Int) ≤ 7 := by omega
      have HB2 : Hid (w.heap.size ≤ g) := Lib.hid (hrow.lt g rfl).1
      clear hone hlast hrow hT hk hy
      go_wp2_with (at_builtin; go_must (refine wpList_append_own_at _ rfl _ _ 116 rfl w.heap.size 3 i0 (.int .i64 0) 1 8 Dr.under_ints hi0 hz0 hz1 hz2 rfl (by decide) (.slice (some ⟨g, 0, none⟩) (k + 1) c) (k + 1) _ rfl HR.out ⟨wr.heap.size, 0, none⟩ 1 1 [.int .i64 y] rfl rfl (Dr.one_new _ _ _) (by simp [Value.oneCell']) (by unfold maxLen; omega) (by omega) HB.out ?_); intro v1 w3 hown3 hg3 _ hl3; have HO3 := Lib.hid hown3; have HG3 := Lib.hid hg3; have HL3 := Lib.hid hl3; clear hown3 hg3 hl3)
      have hO := HO3.out
      rw [HY.out] at hO
      have hO2 : w3.ownsRow w.heap.size 3 1 v1 (k + 1 + 1) ((List.range (k + 1 + 1)).map fun i => .int .i64 (ndN s i)) := by
        rw [List.range_succ (n := k + 1), List.map_append]; exact hO
      obtain ⟨g1, c1, rfl⟩ : ∃ g1 c1, v1 = .slice (some ⟨g1, 0, none⟩) (k + 1 + 1) c1 := by
        rcases hO2.2 with ⟨_, hz⟩ | ⟨g1, cap, cur, e, _⟩
        · omega
        · exact ⟨g1, cap, e⟩
      have hT3 := (HT.out.alloc (.cells #[.int .i64 y] 3)).trans (Frm.Turn.of_grown HG3.out) (fun q hq => by simp [Value.ownBlock] at hq; subst hq; exact .inr HB2.out)
      refine ⟨⟨k + 1, HK.out, g1, c1, rfl, hO2, hT3⟩, ?_⟩
      simp [lenOf]
      omega
end Cnt
end Go.Proofs.YtpajafecodkndaaGreat

set_option linter.unusedVariables false
set_option linter.unusedSimpArgs false
namespace Go.Proofs.YtpajafecodkndaaGreat
namespace Cnt
open Go.RowKit Go.Maps Arn Pac Clm

variable {w W W' : World} {b n k r q r2 q2 pb : Nat} {K : List Nat} {A : Ar} {C D : Ct}
/-- So many steps. -/
def runC : Nat → Ar → Ct → Ar × Ct
  | 0, A, C => (A, C)
  | k + 1, A, C => (runC k A C).2.step (runC k A C).1
def fA0 : Ar := ((Ar.new 99).lay (List.replicate 28 0)).1
def fC : Ct := ⟨65537, 5, 0, 3, 1⟩
def fA3 : Ar := (runC 3 fA0 fC).1
def fA4 : Ar := (fA3.read 65537 21).1
def fD : Ct := ⟨65537, 5, 1, 3, 18446744073709551615⟩
def fA7 : Ar := (runC 3 fA4 fD).1
def fA8 : Ar := (fA7.read 65537 21).1
def fA9 : Ar := (fA8.read 65537 26).1
theorem f_facts : ((Ar.new 99).lay (List.replicate 28 0)).2 = (65537, 0) ∧ (fA3.read 65537 21).2 = (1, 0) ∧ (fA7.read 65537 21).2 = (0, 0) ∧ (fA8.read 65537 26).2 = (1, 0) ∧ fA9.faults = 0 ∧ fA9.t.adds = 5 ∧ (runC 1 fA0 fC).2.first = 1 ∧ (runC 1 fA0 fC).2.last = 3 ∧ (runC 3 fA0 fC).2.first = 3 ∧ (runC 3 fA0 fC).2.last = 3 ∧ (runC 3 fA4 fD).2.first = 3 ∧ (runC 3 fA4 fD).2.last = 3 ∧ kN 5 = 3 := by decide +kernel
theorem fit_c : fC.Fit := ⟨by decide, by unfold W64 fC; decide, by decide, by decide, by decide, by unfold W64 fC; decide⟩
theorem fit_d : fD.Fit := ⟨by decide, by unfold W64 fD; decide, by decide, by decide, by decide, by unfold W64 fD; decide⟩
theorem fit_run : ∀ (k : Nat) {A : Ar} {C : Ct}, C.Fit → (runC k A C).2.Fit
  | 0, A, C, h => h
  | k + 1, A, C, h => (fit_run k h).step _
end Cnt
end Go.Proofs.YtpajafecodkndaaGreat
