/- What the laws of layer 12 go by: places, the document's paths and counters, a count beside an arena. -/
/- The document's paths; first of law 12. -/
/- first of law 12. -/
import Derived.Test.YtolcpfidmpoipaaCountSegsWalk
import Derived.Deep.DeepMust
set_option linter.unusedVariables false
set_option linter.unusedSimpArgs false
namespace Go.Proofs.Ytolcpfidmpoipaa
namespace Cnt
open Go.RowKit Go.Maps Arn Pac Clm

variable {w W W' : World} {b n k r q : Nat} {K : List Nat} {A : Ar} {C : Ct}
theorem kin_stepC (h : Kin w b K A n W) (hn : n ≤ 10000000) (hr : r ∈ K) (hq : q ∈ K) (hrq : r ≠ q) (hw : w.heap.size ≤ r) (hc : CtAt W r b q C) (hf : C.Fit) :
    Calls Try.prog 11 #[.pointer (some ⟨r, 0, none⟩)] W fun e w' => e = .returned (.tuple #[]) ∧ Kin w b K (C.step A).1 (n + 1) w' ∧ CtAt w' r b q (C.step A).2 ∧ But w K (some r) W w' := by
  obtain ⟨M, h1, h2⟩ := h
  refine (stepC_any h1 hn hc (h2 r hr).1 (h2 q hq).1 hrq hw hf).mono ?_
  rintro e w' ⟨he, M', k1, k2, k3, k3', k4, k5⟩
  have hsz := k4.size
  refine ⟨he, ⟨M', k1, fun k hk => ⟨fun hk' => ?_, by have := (h2 k hk).2; omega⟩⟩, k2, ⟨_, k4, fun k hk hne hk' => ?_, fun k hk => ?_⟩⟩
  · rcases k5 k hk' with e1 | e1
    · exact (h2 k hk).1 e1
    · have := (h2 k hk).2; omega
  · rcases List.mem_cons.1 hk' with rfl | hk'
    · exact hne rfl
    · exact (h2 k hk).1 hk'
  · rcases List.mem_cons.1 hk with rfl | hk
    · exact hw
    · exact h1.new k hk
/-- A count that was made beside an arena. -/
theorem kin_made (h : Kin w b K A n W) (hm : MadeC W b C r q W') : Kin w b (r :: q :: K) A n W' ∧ w.heap.size ≤ r ∧ w.heap.size ≤ q := by
  obtain ⟨m1, m2, m3, m4, m5, m6, m7⟩ := hm
  have := h.turn.size
  refine ⟨kin_adds h m7 (fun k hk => ?_), by omega, by omega⟩
  rcases List.mem_cons.1 hk with rfl | hk
  · exact .inr ⟨m2, m3⟩
  rcases List.mem_cons.1 hk with rfl | hk
  · exact .inr ⟨m4, m5⟩
  · exact .inl hk
theorem but_ct {o : Nat} (h : But w K (some o) W W') (hr : r ∈ K) (hq : q ∈ K) (h1 : r ≠ o) (h2 : q ≠ o) (hc : CtAt W r b q C) : CtAt W' r b q C := by
  obtain ⟨F, hT, g1, _⟩ := h
  exact hc.turn hT (g1 r hr (by simpa using h1)) (g1 q hq (by simpa using h2))
theorem but_ct0 (h : But w K none W W') (hr : r ∈ K) (hq : q ∈ K) (hc : CtAt W r b q C) : CtAt W' r b q C := by
  obtain ⟨F, hT, g1, _⟩ := h
  exact hc.turn hT (g1 r hr (by simp)) (g1 q hq (by simp))
theorem but_cell0 {a : Addr} {v : Value} {o : Option Nat} (h : But w K o W W') (hk : a.block ∈ K) (ho : some a.block ≠ o) (hc : W.cell? a = some v) : W'.cell? a = some v := by
  obtain ⟨F, hT, g1, _⟩ := h
  exact hT.cell hc (g1 _ hk ho)
theorem but_subK {K' : List Nat} {o : Option Nat} (h : But w K o W W') (hk : ∀ k, k ∈ K' → k ∈ K) : But w K' o W W' := by
  obtain ⟨F, hT, h1, h2⟩ := h
  exact ⟨F, hT, fun k hk' => h1 k (hk k hk'), h2⟩
/-- The handles' row. -/
def HsAt (W : World) (kh n : Nat) : Prop := ∀ g, g < n → W.cell? ⟨kh, g, none⟩ = some (.int .u64 (hS g))
theorem hs_of {base : Nat} {v : Value} (h : W.ownsRow base 25 1 v n (hsV n)) (hn : 0 < n) : ∃ kh c, v = .slice (some ⟨kh, 0, none⟩) n c ∧ HsAt W kh n ∧ base ≤ kh ∧ kh < W.heap.size := by
  rcases h.2 with ⟨hv, hz⟩ | ⟨g, cap, cur, rfl, hb, hh, hrest⟩
  · omega
  · refine ⟨g, cap, rfl, fun x hx => ?_, hb, (h.lt g rfl).2⟩
    have h2 := h.cellAt x (by have := h.1; omega)
    rw [h2, hsV_get hx]
theorem HsAt.turn {kh : Nat} {F : List Nat} (h : HsAt W kh n) (ht : Frm.Turn F W W') (hn : kh ∉ F) : HsAt W' kh n := fun g hg => ht.cell (h g hg) hn
theorem HsAt.but {kh : Nat} {o : Option Nat} (h : HsAt W kh n) (hb : But w K o W W') (hk : kh ∈ K) (ho : some kh ≠ o) : HsAt W' kh n := fun g hg => but_cell0 hb hk ho (h g hg)
set_option maxRecDepth 100000 in
set_option maxHeartbeats 4000000 in
theorem place_any {kh c : Nat} (s : Nat) (W : World) (hs : s < 255) (hg : sgN s < n) (hn : n ≤ 8) (h : HsAt W kh n) :
    Calls Try.prog 7 #[.slice (some ⟨kh, 0, none⟩) n c, .int .i64 s] W fun e w' => e = .returned (.agg #[.int .u64 (hS (sgN s)), .int .i64 s]) ∧ Frm.Turn [] W w' := by
  have HS := Lib.hid (fun W => RSegment_any s W hs)
  have hc := fun o => ((Frm.Turn.refl [] W).alloc o).cell (h _ hg) (by simp)
  have HT : Hid (∀ o, Frm.Turn [] W (W.alloc o)) := Lib.hid (fun o => (Frm.Turn.refl [] W).alloc o)
  have g1 : ¬ (s : Int) < 0 := by omega
  have g2 : ¬ 254 < (s : Int) := by omega
  have g3 : ¬ (n : Int) ≤ (sgN s : Int) := by omega
  have g4 : (0 : Int) ≤ (sgN s : Int) := by omega
  have g5 : (sgN s : Int) < (n : Int) := by omega
  clear h
  go_enter Try.func7, Try.ntmps7
  go_wp2_with (go_at_call 14; (with_reducible refine (HS.out _).mono ?_); rintro e w1 ⟨rfl, rfl⟩)
  have hld := load_plc (World.alloc_heap_new W (.cells #[.int .u64 (hS (sgN s)), .int .i64 s] 38))
  refine bodyPost_ret (v := .agg #[.int .u64 (hS (sgN s)), .int .i64 s]) (by simp [results, Try.results7, asAddr, hld, Act.put]) rfl ⟨rfl, ?_⟩
  exact HT.out _
/-- The document's counter. -/
theorem RCounter_any (seg : Int) (g m : Nat) (W : World) (hg : g < 8) (hm : m ≤ 1000) :
    Calls Try.prog 16 #[.int .u64 seg, .int .i64 g, .int .i64 m] W fun e w' => e = .returned (.agg #[.int .u64 seg, .int .i64 ((5 * 2 ^ g + m : Nat) : Int)]) ∧ Frm.Turn [] W w' := by
  have HP := Lib.hid (fun W => Pow_any g W (by omega))
  obtain ⟨p0, p1⟩ := pow_le hg
  rw [show ((5 * 2 ^ g + m : Nat) : Int) = 5 * ((2 ^ g : Nat) : Int) + (m : Int) by omega]
  have q0 : (1 : Int) ≤ ((2 ^ g : Nat) : Int) := by omega
  have q1 : ((2 ^ g : Nat) : Int) ≤ 128 := by omega
  have q2 : (0 : Int) ≤ (m : Int) := by omega
  have q3 : (m : Int) ≤ 1000 := by omega
  have HT : Hid (∀ o, Frm.Turn [] W (W.alloc o)) := Lib.hid (fun o => (Frm.Turn.refl [] W).alloc o)
  clear p0 p1 hg hm
  generalize ((2 ^ g : Nat) : Int) = p at HP q0 q1 ⊢
  generalize (m : Int) = y at q2 q3 ⊢
  generalize (g : Int) = gi at HP ⊢
  go_enter Try.func16, Try.ntmps16
  go_wp2_with (go_at_call 22; (with_reducible refine (HP.out _).mono ?_); rintro e w1 ⟨rfl, rfl⟩)
  have hld := load_adr (World.alloc_heap_new W (.cells #[.int .u64 seg, .int .i64 (5 * p + y)] 55))
  refine bodyPost_ret (v := .agg #[.int .u64 seg, .int .i64 (5 * p + y)]) (by simp [results, Try.results16, asAddr, hld, Act.put]) rfl ⟨rfl, ?_⟩
  exact HT.out _
end Cnt
end Go.Proofs.Ytolcpfidmpoipaa

set_option linter.unusedVariables false
set_option linter.unusedSimpArgs false
namespace Go.Proofs.Ytolcpfidmpoipaa
namespace Cnt
open Go.RowKit Go.Maps Arn Pac Clm

variable {w W W' : World} {b n k r q : Nat} {K : List Nat} {A : Ar} {C : Ct}
/-- A row of nodes, k + 1 of them. -/
def NdRow (w : World) (s k : Nat) (v : Value) (W : World) : Prop := ∃ g c, v = .slice (some ⟨g, 0, none⟩) (k + 1) c ∧ W.ownsRow w.heap.size 3 1 v (k + 1) ((List.range (k + 1)).map fun i => .int .i64 (ndN s i)) ∧ Frm.Turn [] w W
def lenOf (v : Value) : Nat := match v with | .slice _ n _ => n | _ => 0
theorem nd_row0 (s : Nat) (w W : World) (hT : Frm.Turn [] w W) : NdRow w s 0 (.slice (some ⟨W.heap.size, 0, none⟩) 1 1) (W.alloc (.cells #[.int .i64 ((s : Int) + 1)] 3)) := by
  refine ⟨_, _, rfl, ⟨by simp, .inr ⟨_, 1, _, rfl, hT.size, World.alloc_heap_new W _, Nat.le_refl _, by unfold maxLen; omega, rfl, ?_⟩⟩, hT.alloc _⟩
  simp [ndN]
theorem ndN_half (s k : Nat) : ndN s (k + 1) = ndN s k / 2 := by unfold ndN; rw [Nat.pow_succ, ← Nat.div_div_eq_div_mul]
theorem nd_one_fin : ∀ s : Fin 255, ∀ k : Fin 8, k.val ≤ sgN s.val → (ndN s.val k.val ≤ 1 ↔ k.val = sgN s.val) := by decide +kernel
set_option maxRecDepth 100000 in
set_option maxHeartbeats 4000000 in
theorem RPath_any (s : Nat) (w : World) (h : s < 255) :
    Calls Try.prog 17 #[.int .i64 s] w fun e w' => ∃ v, e = .returned v ∧ NdRow w s (sgN s) v w' := by
  obtain ⟨i0, hi0, hz0, hz1, hz2⟩ := Dr.info_parts Dr.info_int
  obtain ⟨q1, q2, q3, q4, q5⟩ := sg_facts h
  have HS := Lib.hid (fun W => RSegment_any s W h)
  have HP := Lib.hid (fun W => Pow_any (sgN s) W (by omega))
  have e1 : ((2 ^ sgN s : Nat) : Int) + (ofN s : Int) = (s : Int) + 1 := by omega
  have p0 : (1 : Int) ≤ ((2 ^ sgN s : Nat) : Int) := by omega
  have p1 : ((2 ^ sgN s : Nat) : Int) ≤ 128 := by omega
  have o0 : (0 : Int) ≤ (ofN s : Int) := by omega
  have o1 : (ofN s : Int) ≤ 127 := by omega
  have H0 := Lib.hid (nd_row0 s w w (Frm.Turn.refl [] w))
  have HQ := Lib.hid q1
  have HLT := Lib.hid h
  generalize ((2 ^ sgN s : Nat) : Int) = p at HP e1 p0 p1
  generalize (ofN s : Int) = o at HS e1 o0 o1
  clear q1 q2 q3 q4 q5 h
  go_enter Try.func17, Try.ntmps17
  go_wp2_with (first
    | (go_at_call 14; (with_reducible refine (HS.out _).mono ?_); rintro e w1 ⟨rfl, rfl⟩)
    | (go_at_call 22; (with_reducible refine (HP.out _).mono ?_); rintro e w1 ⟨rfl, rfl⟩))
  go_loopw [5] (fun v wr => ∃ k : Nat, k ≤ sgN s ∧ NdRow w s k v wr) (fun v _ => 9 - lenOf v)
  case atStart => exact ⟨0, Nat.zero_le _, H0.out⟩
  case round =>
    obtain ⟨k, hk, g, c, rfl, hrow, hT⟩ := hrel
    have hk8 : k < 8 := by have := HQ.out; omega
    have hcell := hrow.cellAt k (by omega)
    have hget : ((List.range (k + 1)).map fun i => Value.int .i64 (ndN s i : Int))[k]? = some (.int .i64 (ndN s k)) := by simp
    rw [hget] at hcell
    have hcell : wr.cell? ⟨g, k, none⟩ = some (.int .i64 (ndN s k)) := hcell
    have hone := nd_one_fin ⟨s, HLT.out⟩ ⟨k, hk8⟩ hk
    dsimp only at hone
    have hix : ((k + 1 : Nat) : Int) - 1 = (k : Int) := by omega
    have hk1 : (k : Int) < ((k + 1 : Nat) : Int) := by omega
    have hk0 : (0 : Int) ≤ (k : Int) := by omega
    have HROW := Lib.hid hrow
    have HT := Lib.hid hT
    by_cases hlast : k = sgN s
    · have hle : ¬ 1 < (ndN s k : Int) := by have := hone.2 hlast; omega
      have HL := Lib.hid hlast
      clear hone hlast hrow hT hk
      go_wp2
      go_ret
      rw [← HL.out]
      exact ⟨_, rfl, g, c, rfl, HROW.out, HT.out⟩
    · have hgt : 1 < (ndN s k : Int) := by
        have : ¬ ndN s k ≤ 1 := fun e => hlast (hone.1 e)
        omega
      have hle2 : (ndN s k : Int) ≤ 255 := by
        have : ndN s k ≤ s + 1 := Nat.div_le_self _ _
        have := HLT.out; omega
      obtain ⟨y, hy⟩ : ∃ y : Int, y = (ndN s (k + 1) : Int) := ⟨_, rfl⟩
      have hdiv : Int.tdiv (ndN s k : Int) 2 = y := by
        rw [hy, ndN_half, Int.tdiv_eq_ediv_of_nonneg (by omega)]; omega
      have y0 : 0 ≤ y := by omega
      have y1 : y ≤ 255 := by rw [hy, ndN_half]; omega
      have HY := Lib.hid hy
      have HB : Hid (w.heap.size ≤ (wr.alloc (.cells #[.int .i64 y] 3)).heap.size) := Lib.hid (by have := hT.size; simp; omega)
      have HR := Lib.hid (Frm.owns_turn hrow ((Frm.Turn.refl [] wr).alloc (.cells #[.int .i64 y] 3)) (by simp))
      have HK : Hid (k + 1 ≤ sgN s) := Lib.hid (by omega)
      have hk8' : (k : Int) ≤ 7 := by omega
      have HB2 : Hid (w.heap.size ≤ g) := Lib.hid (hrow.lt g rfl).1
      clear hone hlast hrow hT hk hy
      go_wp2_with (at_builtin; go_must (refine wpList_append_own_at _ rfl _ _ 48 rfl w.heap.size 3 i0 (.int .i64 0) 1 8 Dr.under_ints hi0 hz0 hz1 hz2 rfl (by decide) (.slice (some ⟨g, 0, none⟩) (k + 1) c) (k + 1) _ rfl HR.out ⟨wr.heap.size, 0, none⟩ 1 1 [.int .i64 y] rfl rfl (Dr.one_new _ _ _) (by simp [Value.oneCell']) (by unfold maxLen; omega) (by omega) HB.out ?_); intro v1 w3 hown3 hg3 _ hl3; have HO3 := Lib.hid hown3; have HG3 := Lib.hid hg3; have HL3 := Lib.hid hl3; clear hown3 hg3 hl3)
      have hO := HO3.out
      rw [HY.out] at hO
      have hO2 : w3.ownsRow w.heap.size 3 1 v1 (k + 1 + 1) ((List.range (k + 1 + 1)).map fun i => .int .i64 (ndN s i)) := by
        rw [List.range_succ (n := k + 1), List.map_append]; exact hO
      obtain ⟨g1, c1, rfl⟩ : ∃ g1 c1, v1 = .slice (some ⟨g1, 0, none⟩) (k + 1 + 1) c1 := by
        rcases hO2.2 with ⟨_, hz⟩ | ⟨g1, cap, cur, e, _⟩
        · omega
        · exact ⟨g1, cap, e⟩
      have hT3 := (HT.out.alloc (.cells #[.int .i64 y] 3)).trans (Frm.Turn.of_grown HG3.out) (fun q hq => by simp [Value.ownBlock] at hq; subst hq; exact .inr HB2.out)
      refine ⟨⟨k + 1, HK.out, g1, c1, rfl, hO2, hT3⟩, ?_⟩
      simp [lenOf]
      omega
end Cnt
end Go.Proofs.Ytolcpfidmpoipaa

set_option linter.unusedVariables false
set_option linter.unusedSimpArgs false
namespace Go.Proofs.Ytolcpfidmpoipaa
namespace Cnt
open Go.RowKit Go.Maps Arn Pac Clm

variable {w W W' : World} {b n k r q r2 q2 pb : Nat} {K : List Nat} {A : Ar} {C D : Ct}
/-- So many steps. -/
def runC : Nat → Ar → Ct → Ar × Ct
  | 0, A, C => (A, C)
  | k + 1, A, C => (runC k A C).2.step (runC k A C).1
def fA0 : Ar := ((Ar.new 99).lay (List.replicate 28 0)).1
def fC : Ct := ⟨65537, 5, 0, 3, 1⟩
def fA3 : Ar := (runC 3 fA0 fC).1
def fA4 : Ar := (fA3.read 65537 21).1
def fD : Ct := ⟨65537, 5, 1, 3, 18446744073709551615⟩
def fA7 : Ar := (runC 3 fA4 fD).1
def fA8 : Ar := (fA7.read 65537 21).1
def fA9 : Ar := (fA8.read 65537 26).1
theorem f_facts : ((Ar.new 99).lay (List.replicate 28 0)).2 = (65537, 0) ∧ (fA3.read 65537 21).2 = (1, 0) ∧ (fA7.read 65537 21).2 = (0, 0) ∧ (fA8.read 65537 26).2 = (1, 0) ∧ fA9.faults = 0 ∧ fA9.t.adds = 5 ∧ (runC 1 fA0 fC).2.first = 1 ∧ (runC 1 fA0 fC).2.last = 3 ∧ (runC 3 fA0 fC).2.first = 3 ∧ (runC 3 fA0 fC).2.last = 3 ∧ (runC 3 fA4 fD).2.first = 3 ∧ (runC 3 fA4 fD).2.last = 3 ∧ kN 5 = 3 := by decide +kernel
theorem fit_c : fC.Fit := ⟨by decide, by unfold W64 fC; decide, by decide, by decide, by decide, by unfold W64 fC; decide⟩
theorem fit_d : fD.Fit := ⟨by decide, by unfold W64 fD; decide, by decide, by decide, by decide, by unfold W64 fD; decide⟩
theorem fit_run : ∀ (k : Nat) {A : Ar} {C : Ct}, C.Fit → (runC k A C).2.Fit
  | 0, A, C, h => h
  | k + 1, A, C, h => (fit_run k h).step _
/-- A count (r, q) beside an arena, and a place at pb. -/
structure FR (w : World) (b r q pb : Nat) (K : List Nat) (A : Ar) (n : Nat) (C : Ct) (W : World) : Prop where
  kin : Kin w b K A n W
  at_ : CtAt W r b q C
  hr : r ∈ K
  hq : q ∈ K
  rq : r ≠ q
  low : w.heap.size ≤ r
  hp : pb ∈ K ∧ pb ≠ r
  pl : W.heap[pb]? = some (.cells #[.int .u64 65537, .int .i64 5] 38 (0, 0))
theorem FR.turn (F : FR w b r q pb K A n C W) (ht : Frm.Turn [] W W') : FR w b r q pb K A n C W' := ⟨F.kin.step ht, F.at_.turn ht (by simp) (by simp), F.hr, F.hq, F.rq, F.low, F.hp, ht.keep F.pl (by simp)⟩
theorem FR.step (F : FR w b r q pb K A n C W) (hn : n ≤ 1000) (hf : C.Fit) : Calls Try.prog 11 #[.pointer (some ⟨r, 0, none⟩)] W fun e w' => e = .returned (.tuple #[]) ∧ FR w b r q pb K (C.step A).1 (n + 1) (C.step A).2 w' ∧ But w K (some r) W w' := by
  refine (kin_stepC F.kin (by omega) F.hr F.hq F.rq F.low F.at_ hf).mono ?_
  rintro e w' ⟨he, h1, h2, h3⟩
  exact ⟨he, ⟨h1, h2, F.hr, F.hq, F.rq, F.low, F.hp, h3.heap F.hp.1 F.hp.2 F.pl⟩, h3⟩
theorem FR.read (F : FR w b r q pb K A n C W) (hn : n ≤ 1000) (i : Int) (h0 : 0 ≤ i) (h1 : i ≤ 1000) : Calls Try.prog 15 #[.pointer (some ⟨b, 0, none⟩), .agg #[.int .u64 65537, .int .i64 i]] W fun e w' => e = .returned (.tuple #[.int .u64 (A.read 65537 i).2.1, .int .i64 (A.read 65537 i).2.2]) ∧ FR w b r q pb K (A.read 65537 i).1 (n + 1) C w' ∧ But w K none W w' := by
  refine (kin_read F.kin (by omega) 65537 i (by unfold W64; omega) (wf_small h0 (by omega))).mono ?_
  rintro e w' ⟨he, h1, h3⟩
  exact ⟨he, ⟨h1, but_ct0 h3 F.hr F.hq F.at_, F.hr, F.hq, F.rq, F.low, F.hp, h3.heap0 F.hp.1 F.pl⟩, h3⟩
theorem FR.exit (F : FR w b r q pb K A n C W) (x y : Int) (x0 : 0 ≤ x) (x1 : x ≤ 100) (y0 : 0 ≤ y) (y1 : y ≤ 100) : Calls Try.prog 9 #[.pointer (some ⟨b, 0, none⟩), .agg #[.int .u64 65537, .int .i64 5], .int .i64 x, .int .i64 y] W fun e w' =>
    ∃ r2 q2, e = .returned (.pointer (some ⟨r2, 0, none⟩)) ∧ FR w b r2 q2 pb (r2 :: q2 :: K) A n ⟨65537, 5, min x.toNat (kN 5), min y.toNat (kN 5), 18446744073709551615⟩ w' ∧ CtAt w' r b q C ∧ r ≠ r2 ∧ q ≠ r2 := by
  refine (exitC_any (b := b) 65537 5 x y W (by omega) (by omega) (by omega) (by omega) (by omega)).mono ?_
  rintro e w' ⟨r2, q2, he, hm⟩
  obtain ⟨k1, k2, k3⟩ := kin_made F.kin hm
  obtain ⟨m1, m2, m3, m4, m5, m6, m7⟩ := hm
  have l1 := F.kin.lt F.hr
  have l2 := F.kin.lt F.hq
  have l3 := F.kin.lt F.hp.1
  exact ⟨r2, q2, he, ⟨k1, m1, by simp, by simp, m6, k2, ⟨by simp [F.hp.1], by omega⟩, m7.keep F.pl (by simp)⟩, F.at_.turn m7 (by simp) (by simp), by omega, by omega⟩
set_option maxRecDepth 100000 in
set_option maxHeartbeats 4000000 in
theorem first_any (w : World) : Calls Try.prog 5 #[] w fun e w' => e = .returned (.bool true) ∧ Frm.Turn [] w w' := by
  obtain ⟨e1, e2, e3, e4, e5, e6, e7, e8, e9, e10, e11, e12, e13⟩ := f_facts
  have HN : Hid (Calls Try.prog 18 #[.int .i64 99] w fun e w' => ∃ b, e = .returned (.tuple #[.pointer (some ⟨b, 0, none⟩), .int .i64 0]) ∧ Kin w b [] (Ar.new 99) 0 w') :=
    Lib.hid ((sin_new 99 w (by omega)).mono fun e w' ⟨b, M, he, hs⟩ => ⟨b, he, M, hs, by simp⟩)
  have hm : ∀ W : World, (Instr.makeSlice 32 (.int .i64 28) (.int .i64 28)).run Try.prog W = .ok (.slice (some ⟨W.heap.size, 0, none⟩) 28 28) (W.alloc (.cells (madeCells #[.int .u64 0] 28) 25)) := made_words 28 (by omega)
  have HE : Hid (((Ar.new 99).lay (List.replicate 28 0)).2 = (65537, 0) ∧ (fA3.read 65537 21).2 = (1, 0) ∧ (fA7.read 65537 21).2 = (0, 0) ∧ (fA8.read 65537 26).2 = (1, 0) ∧ fA9.faults = 0 ∧ fA9.t.adds = 5 ∧ kN 5 = 3) := Lib.hid ⟨e1, e2, e3, e4, e5, e6, e13⟩
  have HL : Hid ((runC 1 fA0 fC).2.first = 1 ∧ (runC 1 fA0 fC).2.last = 3 ∧ (runC 3 fA0 fC).2.first = 3 ∧ (runC 3 fA0 fC).2.last = 3 ∧ (runC 3 fA4 fD).2.first = 3 ∧ (runC 3 fA4 fD).2.last = 3) := Lib.hid ⟨e7, e8, e9, e10, e11, e12⟩
  clear e1 e2 e3 e4 e5 e6 e7 e8 e9 e10 e11 e12 e13
  go_enter Try.func5, Try.ntmps5
  go_upto_region 2 with (go_at_call 18; (with_reducible refine (HN.out).mono ?_); rintro e w1 ⟨b, rfl, h⟩; have HK := Lib.hid h; clear h)
  have HLY : Hid (Calls Try.prog 19 #[.pointer (some ⟨b, 0, none⟩), .slice (some ⟨w1.heap.size, 0, none⟩) 28 28] (w1.alloc (.cells (madeCells #[.int .u64 0] 28) 25)) fun e w2 => e = .returned (.tuple #[.int .u64 65537, .int .i64 0]) ∧ Kin w b [w1.heap.size] fA0 1 w2) := Lib.hid (by
    have hk := HK.out.add ((Frm.Turn.refl [] w1).alloc (.cells (madeCells #[.int .u64 0] 28) 25)) (Nat.le_refl _) (by simp)
    refine (kin_lay hk (by omega) (noughts 28 w1 25) (fun k hk => by simp [Value.ownBlock] at hk; subst hk; simp) (fun x hx => by rw [(List.mem_replicate.1 hx).2]; exact w64_zero)).mono ?_
    rintro e w2 ⟨he, h1, _⟩
    rw [HE.out.1] at he
    exact ⟨he, h1⟩)
  go_upto_region 4 with (first
    | (go_at_call 19; (with_reducible refine (HLY.out).mono ?_); rintro e w2 ⟨rfl, h⟩; have HK2 := Lib.hid h; clear h))
  have hp3 := World.alloc_heap_new w2 (.cells #[.int .u64 65537, .int .i64 5] 38)
  have HP3 := Lib.hid hp3
  have HK3 := Lib.hid (HK2.out.add ((Frm.Turn.refl [] w2).alloc (.cells #[.int .u64 65537, .int .i64 5] 38)) (Nat.le_refl _) (by simp))
  have HEN : Hid (∀ W, Calls Try.prog 10 #[.pointer (some ⟨b, 0, none⟩), .agg #[.int .u64 65537, .int .i64 5]] W fun e w' => ∃ r q, e = .returned (.pointer (some ⟨r, 0, none⟩)) ∧ MadeC W b fC r q w') := Lib.hid (fun W => by
    have := enterC_any (b := b) 65537 5 W (by omega)
    rw [HE.out.2.2.2.2.2.2] at this
    exact this)
  clear HLY HK2 HK hp3
  go_upto_region 5 with (first
    | (go_at_call 10; (with_reducible refine (HEN.out _).mono ?_); rintro e w4 ⟨r, q, rfl, hm⟩; have HM4 := Lib.hid hm; clear hm))
  have HF4 : Hid (FR w b r q w2.heap.size (r :: q :: [w2.heap.size, w1.heap.size]) (runC 0 fA0 fC).1 1 (runC 0 fA0 fC).2 w4) := Lib.hid (by
    obtain ⟨k1, k2, k3⟩ := kin_made HK3.out HM4.out
    obtain ⟨m1, m2, m3, m4, m5, m6, m7⟩ := HM4.out
    exact ⟨k1, m1, by simp, by simp, m6, k2, ⟨by simp, by simp at m2; omega⟩, m7.keep HP3.out (by simp)⟩)
  generalize w2.heap.size = pb at HF4 ⊢
  generalize r :: q :: [pb, w1.heap.size] = K at HF4
  clear HM4 HP3 HK3 HEN
  have HS4 := Lib.hid (HF4.out.step (by omega) (fit_run 0 fit_c))
  go_upto_region 6 with (go_at_call 11; (with_reducible refine (HS4.out).mono ?_); rintro e w5 ⟨rfl, h, _⟩; have HF5 := Lib.hid h; clear h)
  have HLF : Hid (Calls Try.prog 20 #[.pointer (some ⟨r, 0, none⟩)] w5 fun e w' => e = .returned (.tuple #[.int .i64 1, .int .i64 3]) ∧ Frm.Turn [] w5 w') := Lib.hid (by
    have h1 := leftC_any HF5.out.at_
    have h2 := HL.out.1
    have h3 := HL.out.2.1
    unfold runC at h2 h3
    rw [h2, h3] at h1
    exact h1)
  clear HS4 HF4
  go_upto_region 7 with (go_at_call 20; (with_reducible refine (HLF.out).mono ?_); rintro e w6 ⟨rfl, hT⟩; have HF6 := Lib.hid (HF5.out.turn hT); clear hT)
  have HS6 := Lib.hid (HF6.out.step (by omega) (fit_run 1 fit_c))
  clear HF5 HLF
  go_upto_region 8 with (go_at_call 11; (with_reducible refine (HS6.out).mono ?_); rintro e w7 ⟨rfl, h, _⟩; have HF7 := Lib.hid h; clear h)
  have HS7 := Lib.hid (HF7.out.step (by omega) (fit_run 2 fit_c))
  clear HF6 HS6
  go_upto_region 9 with (go_at_call 11; (with_reducible refine (HS7.out).mono ?_); rintro e w8 ⟨rfl, h, _⟩; have HF8 : Hid (FR w b r q pb K fA3 4 (runC 3 fA0 fC).2 w8) := Lib.hid h; clear h)
  have HR8 := Lib.hid (HF8.out.read (by omega) 21 (by omega) (by omega))
  rw [HE.out.2.1] at HR8
  clear HF7 HS7
  go_upto_region 10 with (go_at_call 15; (with_reducible refine (HR8.out).mono ?_); rintro e w9 ⟨rfl, h, _⟩; have HF9 : Hid (FR w b r q pb K fA4 5 (runC 3 fA0 fC).2 w9) := Lib.hid h; clear h)
  have HX9 := Lib.hid (HF9.out.exit 1 3 (by omega) (by omega) (by omega) (by omega))
  have p0 : w9.cell? ⟨pb, 0, none⟩ = some (.int .u64 65537) := (Frm.cell_row _ _ 0 _ _ _ HF9.out.pl).trans rfl
  have p1 : w9.cell? ⟨pb, 1, none⟩ = some (.int .i64 5) := (Frm.cell_row _ _ 1 _ _ _ HF9.out.pl).trans rfl
  clear HF8 HR8
  go_upto_region 11 with (go_at_call 9; (with_reducible refine (HX9.out).mono ?_); rintro e w10 ⟨r2, q2, rfl, h, hc, h1, h2⟩; have HF10 := Lib.hid h; have HC10 := Lib.hid hc; have HNE := Lib.hid (And.intro h1 h2); clear h hc h1 h2)
  rw [HE.out.2.2.2.2.2.2] at HF10
  have HF10 : Hid (FR w b r2 q2 pb (r2 :: q2 :: K) (runC 0 fA4 fD).1 5 (runC 0 fA4 fD).2 w10) := HF10
  have HKM : Hid (r ∈ r2 :: q2 :: K ∧ q ∈ r2 :: q2 :: K) := Lib.hid (by have := HF9.out.hr; have := HF9.out.hq; simp_all)
  generalize r2 :: q2 :: K = K2 at HF10 HKM
  clear HX9 HF9 p0 p1
  have HS10 := Lib.hid (HF10.out.step (by omega) (fit_run 0 fit_d))
  go_upto_region 12 with (go_at_call 11; (with_reducible refine (HS10.out).mono ?_); rintro e w11 ⟨rfl, h, hb⟩; have HF11 := Lib.hid h; have HC11 := Lib.hid (but_ct hb HKM.out.1 HKM.out.2 HNE.out.1 HNE.out.2 HC10.out); clear h hb)
  have HS11 := Lib.hid (HF11.out.step (by omega) (fit_run 1 fit_d))
  clear HF10 HC10 HS10
  go_upto_region 13 with (go_at_call 11; (with_reducible refine (HS11.out).mono ?_); rintro e w12 ⟨rfl, h, hb⟩; have HF12 := Lib.hid h; have HC12 := Lib.hid (but_ct hb HKM.out.1 HKM.out.2 HNE.out.1 HNE.out.2 HC11.out); clear h hb)
  have HS12 := Lib.hid (HF12.out.step (by omega) (fit_run 2 fit_d))
  clear HF11 HC11 HS11
  go_upto_region 14 with (go_at_call 11; (with_reducible refine (HS12.out).mono ?_); rintro e w13 ⟨rfl, h, hb⟩; have HF13 : Hid (FR w b r2 q2 pb K2 fA7 8 (runC 3 fA4 fD).2 w13) := Lib.hid h; have HC13 := Lib.hid (but_ct hb HKM.out.1 HKM.out.2 HNE.out.1 HNE.out.2 HC12.out); clear h hb)
  have HR13 := Lib.hid (HF13.out.read (by omega) 21 (by omega) (by omega))
  rw [HE.out.2.2.1] at HR13
  clear HF12 HC12 HS12
  go_upto_region 15 with (go_at_call 15; (with_reducible refine (HR13.out).mono ?_); rintro e w14 ⟨rfl, h, hb⟩; have HF14 : Hid (FR w b r2 q2 pb K2 fA8 9 (runC 3 fA4 fD).2 w14) := Lib.hid h; have HC14 := Lib.hid (but_ct0 hb HKM.out.1 HKM.out.2 HC13.out); clear h hb)
  have HR14 := Lib.hid (HF14.out.read (by omega) 26 (by omega) (by omega))
  rw [HE.out.2.2.2.1] at HR14
  clear HF13 HC13 HR13
  go_upto_region 16 with (go_at_call 15; (with_reducible refine (HR14.out).mono ?_); rintro e w15 ⟨rfl, h, hb⟩; have HF15 : Hid (FR w b r2 q2 pb K2 fA9 10 (runC 3 fA4 fD).2 w15) := Lib.hid h; have HC15 := Lib.hid (but_ct0 hb HKM.out.1 HKM.out.2 HC14.out); clear h hb)
  clear HF14 HC14 HR14
  have HD1 : Hid (Calls Try.prog 8 #[.pointer (some ⟨r, 0, none⟩)] w15 fun e w' => e = .returned (.bool true) ∧ w15 = w') := Lib.hid (by
    have h1 := doneC_any HC15.out
    rw [HL.out.2.2.1, HL.out.2.2.2.1] at h1
    exact h1)
  have HD2 : Hid (Calls Try.prog 8 #[.pointer (some ⟨r2, 0, none⟩)] w15 fun e w' => e = .returned (.bool true) ∧ w15 = w') := Lib.hid (by
    have h1 := doneC_any HF15.out.at_
    rw [HL.out.2.2.2.2.1, HL.out.2.2.2.2.2] at h1
    exact h1)
  have HFA : Hid (Calls Try.prog 13 #[.pointer (some ⟨b, 0, none⟩)] w15 fun e w' => e = .returned (.int .i64 0) ∧ w15 = w') := Lib.hid (by
    obtain ⟨M, hs, _⟩ := HF15.out.kin
    have := faults_any hs.at_
    rw [HE.out.2.2.2.2.1] at this
    exact this)
  have HTA : Hid (∃ t0 t1 t2 t3 t4 : Nat, Calls Try.prog 21 #[.pointer (some ⟨b, 0, none⟩)] w15 fun e w' => e = .returned (.agg #[.int .i64 t0, .int .i64 t1, .int .i64 t2, .int .i64 t3, .int .i64 t4, .int .i64 5]) ∧ Frm.Turn [] w15 w') := Lib.hid (by
    obtain ⟨M, hs, _⟩ := HF15.out.kin
    have := tally_any hs.at_
    unfold tal at this
    rw [HE.out.2.2.2.2.2.1] at this
    exact ⟨_, _, _, _, _, this⟩)
  have HTT := Lib.hid HF15.out.kin.turn
  obtain ⟨t0, t1, t2, t3, t4, htl⟩ := HTA.out
  have HTL := Lib.hid htl
  have hfd : ∀ W : World, (Instr.field 29 (.agg #[.int .i64 t0, .int .i64 t1, .int .i64 t2, .int .i64 t3, .int .i64 t4, .int .i64 5]) 5).run Try.prog W = .ok (.int .i64 5) W := fun W => by kernel_rfl
  clear htl HTA HF15 HC15 HL HE HKM HNE
  go_wp2_with (first
    | (go_at_call 8; (with_reducible refine (HD1.out).mono ?_); rintro e w16 ⟨rfl, rfl⟩)
    | (go_at_call 8; (with_reducible refine (HD2.out).mono ?_); rintro e w16 ⟨rfl, rfl⟩)
    | (go_at_call 13; (with_reducible refine (HFA.out).mono ?_); rintro e w16 ⟨rfl, rfl⟩)
    | (go_at_call 21; (with_reducible refine (HTL.out).mono ?_); rintro e w17 ⟨rfl, hT⟩; have HT17 := Lib.hid hT; clear hT))
  go_ret
  exact ⟨rfl, HTT.out.trans HT17.out (by simp)⟩
end Cnt
end Go.Proofs.Ytolcpfidmpoipaa
