/- The walk of PaceGears. -/
import Derived.Test.YtoghagapbhlfeaaPaceEach
set_option linter.unusedVariables false
set_option linter.unusedSimpArgs false
namespace Go.Proofs.Ytoghagapbhlfeaa
namespace Pac
open Go.RowKit Go.Maps Arn

theorem eachV_fn (B : Bs) : IsFn (eachV B) := isFn_func _ _ _
theorem runV_fn (B : Bx) : IsFn (runV B) := isFn_func _ _ _
/-- One step of the gear, ahead of the machine. -/
theorem gears_more {w W : World} {b n k j : Nat} {B : Bs} {A : Ar} {ran : Int} (h : G1 w b n k B A (j : Int) ran (eachV B) W) (hj : j < n) (hn : n < 256) :
    Calls Try.prog 39 #[.pointer (some ⟨B.G, 0, none⟩)] W fun e w' => e = .returned (.tuple #[]) ∧ G1 w b n k B A ((j + 1 : Nat) : Int) ran (eachV B) w' :=
  gstep_any B.G (eachV B) W h.box.bG.cell (call_fn (g := 42) #[] #[.pointer (some ⟨B.D, 0, none⟩), .pointer (some ⟨B.N, 0, none⟩), .pointer (some ⟨B.G, 0, none⟩), .pointer (some ⟨B.A, 0, none⟩), .pointer (some ⟨B.K, 0, none⟩), .pointer (some ⟨B.R, 0, none⟩)] W enters_each (each_more h hj hn))
theorem gears_none {w W : World} {b n : Nat} {B : Bs} {A : Ar} {ran : Int} (h : G1 w b n 0 B A (n : Int) ran (eachV B) W) (hn : n < 256) :
    Calls Try.prog 39 #[.pointer (some ⟨B.G, 0, none⟩)] W fun e w' => e = .returned (.tuple #[]) ∧ G1 w b n 0 B A ((n : Int) + 1) ((n : Int) + 1) (eachV B) w' := by
  refine gstep_any B.G (eachV B) W h.box.bG.cell (call_fn (g := 42) #[] #[.pointer (some ⟨B.D, 0, none⟩), .pointer (some ⟨B.N, 0, none⟩), .pointer (some ⟨B.G, 0, none⟩), .pointer (some ⟨B.A, 0, none⟩), .pointer (some ⟨B.K, 0, none⟩), .pointer (some ⟨B.R, 0, none⟩)] W enters_each (each_last h (by omega) hn ?_))
  intro r W4 hg hm
  refine (run_none hg.box.bG hg.box.bD hg.box.bR (fun W' hT => rd_done_is (hm.step (rd_stays _ _ _ _) hT))).mono ?_
  rintro e w' ⟨he, w2, hT, rfl⟩
  have g2 := hg.step hT
  exact ⟨he, g2.poke (by simp [Bs.all]) (g2.box.setr _)⟩
theorem gears_begin {w W : World} {b n k : Nat} {B : Bs} {A : Ar} {ran : Int} (h : G1 w b n k B A (n : Int) ran (eachV B) W) (hk : k < 256) (hk0 : 0 < k) (hn : n < 256) :
    Calls Try.prog 39 #[.pointer (some ⟨B.G, 0, none⟩)] W fun e w' => e = .returned (.tuple #[]) ∧ ∃ r Wx w2, G2 w b r n k (runBx Wx w2 B) A 0 k [] ((n : Int) + 1) ran false (runV (runBx Wx w2 B)) w' := by
  refine gstep_any B.G (eachV B) W h.box.bG.cell (call_fn (g := 42) #[] #[.pointer (some ⟨B.D, 0, none⟩), .pointer (some ⟨B.N, 0, none⟩), .pointer (some ⟨B.G, 0, none⟩), .pointer (some ⟨B.A, 0, none⟩), .pointer (some ⟨B.K, 0, none⟩), .pointer (some ⟨B.R, 0, none⟩)] W (R := fun w' => ∃ r Wx w2, G2 w b r n k (runBx Wx w2 B) A 0 k [] ((n : Int) + 1) ran false (runV (runBx Wx w2 B)) w') enters_each (each_last h hk hn ?_))
  intro r W4 hg hm
  have hz : decide ((List.replicate k ((0 : Int), (0 : Int))).length = 0) = false := by simp; omega
  refine (run_some hg.box.bG (fun W' hT => by
    have := rd_done_is (hm.step (rd_stays _ _ _ _) hT)
    rw [hz] at this
    exact this)).mono ?_
  rintro e w' ⟨he, w2, hT, rfl⟩
  exact ⟨he, r, W4, w2, G1.run (K' := []) hg hm hT⟩
theorem gears_step2 {w W : World} {b r n k c m : Nat} {B : Bx} {A : Ar} {Wd : List Int} {did ran : Int} (h : G2 w b r n k B A c (m + 2) Wd did ran false (runV B) W) (hc : c ≤ 1000) (hm : m ≤ 900) (hW : Wd.length ≤ 1000) :
    ∃ A' Wd', A'.t.reads = A.t.reads + 1 ∧ Wd'.length = Wd.length + 1 ∧ Calls Try.prog 39 #[.pointer (some ⟨B.G, 0, none⟩)] W fun e w' => e = .returned (.tuple #[]) ∧ G2 w b r n k B A' (c + 1) (m + 1) Wd' did ran false (runV B) w' := by
  obtain ⟨A', Wd', e1, e2, hcall⟩ := run1_more h (by omega) hm hW
  exact ⟨A', Wd', e1, e2, gstep_any B.G (runV B) W h.box.bG.cell (call_fn (g := 85) #[] #[.pointer (some ⟨B.wb, 0, none⟩), .pointer (some ⟨B.mb, 0, none⟩), .pointer (some ⟨B.gb, 0, none⟩), .pointer (some ⟨B.tb, 0, none⟩)] W enters_run1 hcall)⟩
theorem gears_step1 {w W : World} {b r n k c : Nat} {B : Bx} {A : Ar} {Wd : List Int} {did ran : Int} (h : G2 w b r n k B A c 1 Wd did ran false (runV B) W) (hc : c ≤ 1000) (hW : Wd.length ≤ 1000) :
    ∃ A' Wd', A'.t.reads = A.t.reads + 1 ∧ Calls Try.prog 39 #[.pointer (some ⟨B.G, 0, none⟩)] W fun e w' => e = .returned (.tuple #[]) ∧ G2 w b r n k B A' (c + 1) 0 Wd' did did false .nilFunc w' := by
  obtain ⟨A', Wd', e1, hcall⟩ := run1_last h (by omega) hW
  exact ⟨A', Wd', e1, gstep_any B.G (runV B) W h.box.bG.cell (call_fn (g := 85) #[] #[.pointer (some ⟨B.wb, 0, none⟩), .pointer (some ⟨B.mb, 0, none⟩), .pointer (some ⟨B.gb, 0, none⟩), .pointer (some ⟨B.tb, 0, none⟩)] W enters_run1 hcall)⟩
/-- While the machine runs: i steps were done. -/
def GRel (w : World) (b r n k : Nat) (B : Bx) (i : Nat) (W : World) : Prop :=
  ∃ A Wd, A.t.reads = i ∧ ((i < k ∧ Wd.length = i ∧ G2 w b r n k B A i (k - i) Wd ((n : Int) + 1) 0 false (runV B) W) ∨ (i = k ∧ G2 w b r n k B A i 0 Wd ((n : Int) + 1) ((n : Int) + 1) false .nilFunc W))
theorem GRel.next {w W : World} {b r n k i : Nat} {B : Bx} (h : GRel w b r n k B i W) (hi : i < k) (hk : k < 256) :
    Calls Try.prog 39 #[.pointer (some ⟨B.G, 0, none⟩)] W fun e w' => e = .returned (.tuple #[]) ∧ GRel w b r n k B (i + 1) w' := by
  obtain ⟨A, Wd, hA, ⟨_, hW, hg⟩ | ⟨e, _⟩⟩ := h
  · by_cases hl : k - i = 1
    · rw [hl] at hg
      obtain ⟨A', Wd', e1, hcall⟩ := gears_step1 hg (by omega) (by omega)
      exact hcall.mono fun e w' ⟨he, hg'⟩ => ⟨he, A', Wd', by omega, .inr ⟨by omega, hg'⟩⟩
    · obtain ⟨m, hm⟩ : ∃ m, k - i = m + 2 := ⟨k - i - 2, by omega⟩
      rw [hm] at hg
      obtain ⟨A', Wd', e1, e2, hcall⟩ := gears_step2 hg (by omega) (by omega) (by omega)
      exact hcall.mono fun e w' ⟨he, hg'⟩ => ⟨he, A', Wd', by omega, .inl ⟨by omega, by omega, by rw [show k - (i + 1) = m + 1 by omega]; exact hg'⟩⟩
  · omega

theorem GRel.step {w W W' : World} {b r n k i : Nat} {B : Bx} (h : GRel w b r n k B i W) (hT : Frm.Turn [] W W') : GRel w b r n k B i W' := by
  obtain ⟨A, Wd, hA, ⟨h1, hW, hg⟩ | ⟨e, hg⟩⟩ := h
  · exact ⟨A, Wd, hA, .inl ⟨h1, hW, hg.step hT⟩⟩
  · exact ⟨A, Wd, hA, .inr ⟨e, hg.step hT⟩⟩
theorem tally_reads (x0 x1 x2 x3 x4 x5 : Int) (w : World) : (Instr.field 47 (.agg #[.int .i64 x0, .int .i64 x1, .int .i64 x2, .int .i64 x3, .int .i64 x4, .int .i64 x5]) 2).run Try.prog w = .ok (.int .i64 x2) w := by kernel_rfl
theorem GRel.tally {w W : World} {b r n k i : Nat} {B : Bx} (h : GRel w b r n k B i W) :
    ∃ t0 t1 t3 t4 t5 : Nat, Calls Try.prog 26 #[.pointer (some ⟨b, 0, none⟩)] W fun e w' => e = .returned (.agg #[.int .i64 t0, .int .i64 t1, .int .i64 i, .int .i64 t3, .int .i64 t4, .int .i64 t5]) ∧ Frm.Turn [] W w' := by
  have key : ∀ A : Ar, A.t.reads = i → (∃ M, ArAt W b M A) → ∃ t0 t1 t3 t4 t5 : Nat, Calls Try.prog 26 #[.pointer (some ⟨b, 0, none⟩)] W fun e w' => e = .returned (.agg #[.int .i64 t0, .int .i64 t1, .int .i64 i, .int .i64 t3, .int .i64 t4, .int .i64 t5]) ∧ Frm.Turn [] W w' := fun A hA ⟨M, ha⟩ => by
    subst hA
    exact ⟨_, _, _, _, _, tally_any ha⟩
  obtain ⟨A, Wd, hA, ⟨h1, hW, hg⟩ | ⟨e, hg⟩⟩ := h
  · exact key A hA hg.mach.arena
  · exact key A hA hg.mach.arena
set_option maxRecDepth 100000 in
set_option maxHeartbeats 4000000 in
theorem gears_any (n k : Nat) (w : World) (hn : n < 256) (hk : k < 256) : Calls Try.prog 6 #[.int .u8 n, .int .u8 k] w fun e w' => e = .returned (.bool true) ∧ Frm.Turn [] w w' := by
  have HF : Hid (∀ W, Frm.Turn [] w W → Calls Try.prog 38 #[] W fun e w' => e = .returned (.bool true) ∧ Frm.Turn [] W w') := Lib.hid fun W _ => pfirst_any W
  have HN : Hid (∀ W, Frm.Turn [] w W → Calls Try.prog 11 #[.int .i64 9] W fun e w' => ∃ b, e = .returned (.tuple #[.pointer (some ⟨b, 0, none⟩), .int .i64 0]) ∧ (∀ K : List Nat, (∀ q, q ∈ K → q < W.heap.size) → Mach w b K (Ar.new 9) 0 Bare w') ∧ Frm.Turn [] W w') :=
    Lib.hid fun W hT => (sin_new 9 W (by omega)).mono fun e w' ⟨b, M, he, h2⟩ => ⟨b, he, fun K hK => mach_bare ⟨h2.at_, fun k hk => Nat.le_trans hT.size (h2.new k hk), hT.trans h2.turn (by simp), h2.low, h2.born⟩ (fun q hq => ⟨fun h3 => by have := h2.new q h3; have := hK q hq; omega, by have := hK q hq; have := h2.turn.size; omega⟩), h2.turn⟩
  have hmk := hmf
  go_enter Try.func6, Try.ntmps6
  go_upto_region 5 with (first
    | (go_at_call 38; (with_reducible refine (HF.out _ (((Frm.Turn.refl [] w).alloc _).alloc _)).mono ?_); rintro e w1 ⟨rfl, hT⟩; have HT1 : Hid (Frm.Turn [] ((w.alloc (.cells #[.int .u8 n] 5)).alloc (.cells #[.int .u8 k] 5)) w1) := Lib.hid hT; clear hT)
    | (go_at_call 11; (with_reducible refine (HN.out _ ((((Frm.Turn.refl [] w).alloc _).alloc _).trans HT1.out (by simp))).mono ?_); rintro e w3 ⟨b, rfl, h, hT⟩; have HM := Lib.hid h; have HT3 := Lib.hid hT; clear h hT))
  have hT03 := HT1.out.trans HT3.out (by simp)
  have s1 : ((w.alloc (.cells #[.int .u8 n] 5)).alloc (.cells #[.int .u8 k] 5)).heap.size = w.heap.size + 2 := by simp
  have s3 := hT03.size
  have xN : Boxed ((w3.alloc (.cells #[.pointer (some ⟨b, 0, none⟩)] 25)).alloc (.cells #[.nilFunc] 77)) w.heap.size 5 (.int .u8 n) := ((boxed_turn ((Boxed.new w _ _).alloc _) hT03 (by simp)).alloc _).alloc _
  have xK : Boxed ((w3.alloc (.cells #[.pointer (some ⟨b, 0, none⟩)] 25)).alloc (.cells #[.nilFunc] 77)) (w.heap.size + 1) 5 (.int .u8 k) := by
    have := Boxed.new (w.alloc (.cells #[.int .u8 n] 5)) 5 (.int .u8 k)
    rw [World.size_alloc] at this
    exact ((boxed_turn this hT03 (by simp)).alloc _).alloc _
  have xA : Boxed ((w3.alloc (.cells #[.pointer (some ⟨b, 0, none⟩)] 25)).alloc (.cells #[.nilFunc] 77)) w3.heap.size 25 (.pointer (some ⟨b, 0, none⟩)) := (Boxed.new w3 _ _).alloc _
  have xG : Boxed ((w3.alloc (.cells #[.pointer (some ⟨b, 0, none⟩)] 25)).alloc (.cells #[.nilFunc] 77)) (w3.heap.size + 1) 77 .nilFunc := by
    have := Boxed.new (w3.alloc (.cells #[.pointer (some ⟨b, 0, none⟩)] 25)) 77 .nilFunc
    rwa [World.size_alloc] at this
  have hTA : Frm.Turn [] w3 ((w3.alloc (.cells #[.pointer (some ⟨b, 0, none⟩)] 25)).alloc (.cells #[.nilFunc] 77)) := ((Frm.Turn.refl [] w3).alloc _).alloc _
  have sA : ((w3.alloc (.cells #[.pointer (some ⟨b, 0, none⟩)] 25)).alloc (.cells #[.nilFunc] 77)).heap.size = w3.heap.size + 2 := by simp
  generalize (w3.alloc (.cells #[.pointer (some ⟨b, 0, none⟩)] 25)).alloc (.cells #[.nilFunc] 77) = WA at xN xK xA xG hTA sA ⊢
  obtain ⟨gG, HgG⟩ : ∃ g, Hid (g = w3.heap.size + 1) := ⟨_, Lib.hid rfl⟩
  rw [← HgG.out] at xG ⊢
  have HST := Lib.hid (gstep_any (R := fun w' => WA = w') gG .nilFunc WA xG.cell ((call_none WA).mono fun e w' ⟨h1, h2⟩ => ⟨h1, h2.symm⟩))
  have HDN : Hid (Calls Try.prog 40 #[.pointer (some ⟨gG, 0, none⟩)] WA fun e w' => e = .returned (.bool true) ∧ WA = w') := Lib.hid (gdone_any gG .nilFunc WA isFn_nil xG.cell)
  have yG : Boxed ((WA.alloc (.cells #[.int .i64 0] 3)).alloc (.cells #[.int .i64 0] 3)) gG 77 .nilFunc := (xG.alloc _).alloc _
  have HTO := Lib.hid (fun v (hv : IsFn v) => to_any gG v .nilFunc ((WA.alloc (.cells #[.int .i64 0] 3)).alloc (.cells #[.int .i64 0] 3)) hv yG.cell yG.frozen)
  have X := Lib.hid (And.intro xN (And.intro xK (And.intro xA (And.intro xG (And.intro hTA (And.intro sA (And.intro s3 s1)))))))
  clear xN xK xA xG hTA sA s3 s1 yG hT03 HF HN
  go_upto_region 10 with (first
    | (go_at_call 39; (with_reducible refine (HST.out).mono ?_); rintro e w4 ⟨rfl, rfl⟩)
    | (go_at_call 40; (with_reducible refine (HDN.out).mono ?_); rintro e w5 ⟨rfl, rfl⟩)
    | (go_at_call 41; (with_reducible refine (HTO.out _ (isFn_func _ _ _)).mono ?_); rintro e w6 ⟨rfl, rfl⟩))
  obtain ⟨B, eN, eK, eA, eG, eD, eR⟩ : ∃ B : Bs, w.heap.size = B.N ∧ w.heap.size + 1 = B.K ∧ w3.heap.size = B.A ∧ gG = B.G ∧ WA.heap.size = B.D ∧ WA.heap.size + 1 = B.R := ⟨⟨w.heap.size, w.heap.size + 1, w3.heap.size, gG, WA.heap.size, WA.heap.size + 1⟩, rfl, rfl, rfl, rfl, rfl, rfl⟩
  rw [eK, eR, eN, eA, eG, eD]
  have hg1 : G1 w b n k B (Ar.new 9) ((0 : Nat) : Int) 0 (eachV B) (((WA.alloc (.cells #[.int .i64 0] 3)).alloc (.cells #[.int .i64 0] 3)).setCell ⟨B.G, 0, none⟩ (eachV B)) := by
    obtain ⟨xN, xK, xA, xG, hTA, sA, s3, s1⟩ := X.out
    have hgg := HgG.out
    have hT2 : Frm.Turn [] WA ((WA.alloc (.cells #[.int .i64 0] 3)).alloc (.cells #[.int .i64 0] 3)) := ((Frm.Turn.refl [] WA).alloc _).alloc _
    have xD : Boxed ((WA.alloc (.cells #[.int .i64 0] 3)).alloc (.cells #[.int .i64 0] 3)) WA.heap.size 3 (.int .i64 ((0 : Nat) : Int)) := (Boxed.new WA _ _).alloc _
    have xR : Boxed ((WA.alloc (.cells #[.int .i64 0] 3)).alloc (.cells #[.int .i64 0] 3)) (WA.heap.size + 1) 3 (.int .i64 0) := by
      have := Boxed.new (WA.alloc (.cells #[.int .i64 0] 3)) 3 (.int .i64 0)
      rwa [World.size_alloc] at this
    rw [eN] at xN
    rw [eK] at xK
    rw [eA] at xA
    rw [eG] at xG
    rw [eD] at xD
    rw [eR] at xR
    have hb : Box6 w b n k B ((0 : Nat) : Int) 0 .nilFunc ((WA.alloc (.cells #[.int .i64 0] 3)).alloc (.cells #[.int .i64 0] 3)) :=
      ⟨(xN.alloc _).alloc _, (xK.alloc _).alloc _, (xA.alloc _).alloc _, (xG.alloc _).alloc _, xD, xR, by omega, by omega⟩
    have hsz : ((WA.alloc (.cells #[.int .i64 0] 3)).alloc (.cells #[.int .i64 0] 3)).heap.size = WA.heap.size + 2 := by simp
    have hmm : Mach w b B.all (Ar.new 9) 0 Bare ((WA.alloc (.cells #[.int .i64 0] 3)).alloc (.cells #[.int .i64 0] 3)) := by
      have hm0 := HM.out [B.N, B.K] (fun q hq => by
        have h1 := HT1.out.size
        simp at hq
        rw [s1] at h1
        omega)
      refine hm0.own bare_stays (G := []) (hTA.trans hT2 (by simp)) (by simp) (fun q hq => ⟨?_, (hb.lt q hq).2⟩)
      simp only [Bs.all, List.mem_cons, List.not_mem_nil, or_false] at hq
      simp only [List.mem_cons, List.not_mem_nil, or_false]
      omega
    exact G1.poke ⟨hb, hmm⟩ (by simp [Bs.all]) (hb.setg _)
  clear eN eK eA eG eD eR X HM HTO HST HDN HgG HT1 HT3
  unfold eachV at hg1
  generalize hWq : ((WA.alloc (.cells #[.int .i64 0] 3)).alloc (.cells #[.int .i64 0] 3)).setCell ⟨B.G, 0, none⟩ _ = Wq at hg1 ⊢
  have hst : G1 w b n k B (Ar.new 9) ((0 : Nat) : Int) 0 (eachV B) Wq := hg1
  have cN := hst.box.bN.cell
  clear hg1 hWq
  have wn : IntKind.i64.wrap (n : Int) = (n : Int) := by simp only [IntKind.wrap_i64]; omega
  have wk : IntKind.i64.wrap (k : Int) = (k : Int) := by simp only [IntKind.wrap_i64]; omega
  have HWN := Lib.hid wn
  have HWK := Lib.hid wk
  clear wn wk
  go_wp2_with fail
  go_loopw [24] (fun i wr => ∃ j : Nat, j ≤ n ∧ i = .int .i64 j ∧ G1 w b n k B (Ar.new 9) (j : Int) 0 (eachV B) wr) (fun i _ => n - (intOf i).toNat)
  case atStart => exact ⟨0, Nat.zero_le _, rfl, hst⟩
  case round =>
    obtain ⟨j, hj, rfl, hg⟩ := hrel
    clear hst cN
    have HG := Lib.hid hg
    by_cases hlt : j < n
    · have HSTEP := Lib.hid (gears_more hg hlt hn)
      clear hg
      go_wp2_with (go_at_call 39; (with_reducible refine (HSTEP.out).mono ?_); rintro e w4 ⟨rfl, hg⟩; have HG4 := Lib.hid hg; clear hg)
      refine ⟨⟨j + 1, by omega, by simp, HG4.out⟩, ?_⟩
      simp [intOf]; omega
    · obtain rfl : j = n := by omega
      have cN := hg.box.bN.cell
      have cD := hg.box.bD.cell
      have cR := hg.box.bR.cell
      have HDN2 : Hid (Calls Try.prog 40 #[.pointer (some ⟨B.G, 0, none⟩)] wr fun e w' => e = .returned (.bool false) ∧ wr = w') := Lib.hid (gdone_any B.G (eachV B) wr (eachV_fn B) hg.box.bG.cell)
      clear hg
      by_cases hk0 : k = 0
      · subst hk0
        have HSTEP := Lib.hid (gears_none HG.out hn)
        go_wp2_with (first
          | (go_at_call 40; (with_reducible refine (HDN2.out).mono ?_); rintro e w4 ⟨rfl, rfl⟩)
          | (go_at_call 39; (with_reducible refine (HSTEP.out).mono ?_); rintro e w5 ⟨rfl, hg⟩; have HG5 := Lib.hid hg; have dK := hg.box.bK.cell; have dN := hg.box.bN.cell; have dR := hg.box.bR.cell; clear hg))
        go_ret
        exact ⟨by simp, HG5.out.mach.turn⟩
      · have HSTEP := Lib.hid (gears_begin HG.out hk (by omega) hn)
        have HK0 : Hid (0 < k) := Lib.hid (by omega)
        have hk1 : ((k : Int) == 0) = false := by simpa using hk0
        clear hk0
        go_wp2_with (first
          | (go_at_call 40; (with_reducible refine (HDN2.out).mono ?_); rintro e w4 ⟨rfl, rfl⟩)
          | (go_at_call 39; (with_reducible refine (HSTEP.out).mono ?_); rintro e w5 ⟨rfl, r, Wx, wy, hg⟩; have HG5 := Lib.hid hg; have dK := hg.box.bK.cell; have dN := hg.box.bN.cell; have dR := hg.box.bR.cell; dsimp only [runBx] at dK dN dR; clear hg))
        have hst2 : GRel w b r j k (runBx Wx wy B) 0 w5 := ⟨Ar.new 9, [], rfl, .inl ⟨HK0.out, rfl, by have := HG5.out; simpa using this⟩⟩
        clear dK dN dR HSTEP HDN2 cN cD cR hk1
        have hfl := tally_reads
        go_loopw [49] (fun i wz => ∃ i0 : Nat, i0 ≤ k ∧ i = .int .i64 i0 ∧ GRel w b r j k (runBx Wx wy B) i0 wz) (fun i _ => k - (intOf i).toNat)
        case atStart => exact ⟨0, Nat.zero_le _, rfl, hst2⟩
        case round =>
          obtain ⟨i0, hi0, rfl, hrl⟩ := hrel
          clear hst2
          have HRL := Lib.hid hrl
          obtain ⟨t0, t1, t3, t4, t5, htl⟩ := hrl.tally
          have HTL := Lib.hid htl
          clear htl
          by_cases hlt2 : i0 < k
          · obtain ⟨A, Wd, hA, ⟨_, _, hg⟩ | ⟨e, _⟩⟩ := hrl
            · have dR := hg.box.bR.cell
              have dA := hg.box.bA.cell
              have HDN3 : Hid (Calls Try.prog 40 #[.pointer (some ⟨B.G, 0, none⟩)] wr fun e w' => e = .returned (.bool false) ∧ wr = w') := Lib.hid (gdone_any B.G (runV (runBx Wx wy B)) wr (runV_fn _) hg.box.bG.cell)
              dsimp only [runBx] at dR dA
              clear hg hA
              have HNX := Lib.hid (fun W' (hT : Frm.Turn [] wr W') => GRel.next (HRL.out.step hT) hlt2 hk)
              dsimp only [runBx] at HNX
              go_wp2_with (first
                | (go_at_call 40; (with_reducible refine (HDN3.out).mono ?_); rintro e w4 ⟨rfl, rfl⟩)
                | (go_at_call 26; (with_reducible refine (HTL.out).mono ?_); rintro e w6 ⟨rfl, hT⟩; have HT6 := Lib.hid hT; clear hT)
                | (go_at_call 39; (with_reducible refine (HNX.out _ HT6.out).mono ?_); rintro e w7 ⟨rfl, hg⟩; have HG7 := Lib.hid hg; clear hg))
              refine ⟨⟨i0 + 1, by omega, by simp, HG7.out⟩, ?_⟩
              simp [intOf]; omega
            · omega
          · obtain rfl : i0 = k := by omega
            obtain ⟨A, Wd, hA, ⟨e, _⟩ | ⟨_, hg⟩⟩ := hrl
            · omega
            · have dR := hg.box.bR.cell
              have dA := hg.box.bA.cell
              have dN := hg.box.bN.cell
              have dK := hg.box.bK.cell
              have HDN3 : Hid (∀ W', Frm.Turn [] wr W' → Calls Try.prog 40 #[.pointer (some ⟨B.G, 0, none⟩)] W' fun e w' => e = .returned (.bool true) ∧ W' = w') := Lib.hid (fun W' hT => gdone_any B.G .nilFunc W' isFn_nil (boxed_turn hg.box.bG hT (by simp)).cell)
              have HK5 := Lib.hid (fun W' (hT : Frm.Turn [] wr W') => (boxed_turn hg.box.bK hT (by simp)).cell)
              have HTW := Lib.hid hg.mach.turn
              dsimp only [runBx] at dR dA dN dK HK5
              obtain ⟨z0, z1, z3, z4, z5, htl2⟩ := (HRL.out.step ((Frm.Turn.refl [] wr).drew)).tally
              have HTL2 := Lib.hid htl2
              clear htl2
              have wn1 : IntKind.i64.wrap ((j : Int) + 1) = (j : Int) + 1 := by simp only [IntKind.wrap_i64]; omega
              have wn := HWN.out
              have wk := HWK.out
              clear hg hA
              go_wp2_with fail
              go_region_with (first
                | (go_at_call 40; (with_reducible refine (HDN3.out _ (Frm.Turn.refl [] wr).drew).mono ?_); rintro e w4 ⟨rfl, rfl⟩)
                | (go_at_call 26; (with_reducible refine (HTL2.out).mono ?_); rintro e w6 ⟨rfl, hT⟩; have HT6 := Lib.hid (((Frm.Turn.refl [] wr).drew).trans hT (by simp)); have eK := HK5.out _ HT6.out; clear hT))
              all_goals go_wp2_with fail
              all_goals go_ret
              all_goals exact ⟨by simp [Act.put], HTW.out.trans HT6.out (by simp)⟩
end Pac
end Go.Proofs.Ytoghagapbhlfeaa
