/- One that claims beside its arena; first of the laws. -/
import Derived.Test.YtgodlddbocmcmaaClaimCalls3
set_option linter.unusedVariables false
set_option linter.unusedSimpArgs false
namespace Go.Proofs.Ytgodlddbocmcmaa
namespace Clm
open Go.RowKit Go.Maps Arn Pac

variable {w W W' : World} {r b n : Nat} {M : Mem} {A : Ar} {C : Cl}
/-- An arena that was made since w. -/
def Arel (w : World) (b : Nat) (A : Ar) (n : Nat) (W : World) : Prop := ∃ M, Sin w b M A n W
/-- .. and one that claims in it. -/
def Crel (w : World) (b r : Nat) (A : Ar) (n : Nat) (C : Cl) (W : World) : Prop := ∃ M, Sin w b M A n W ∧ ClAt W r b C ∧ r ∉ M.foot b ∧ w.heap.size ≤ r
theorem Crel.arel (h : Crel w b r A n C W) : Arel w b A n W := ⟨_, h.choose_spec.1⟩
theorem Crel.at_ (h : Crel w b r A n C W) : ClAt W r b C := h.choose_spec.2.1
theorem Arel.turn (h : Arel w b A n W) : Frm.Turn [] w W := h.choose_spec.turn
theorem Arel.step (h : Arel w b A n W) (ht : Frm.Turn [] W W') : Arel w b A n W' := ⟨_, h.choose_spec.step ht⟩
theorem Arel.more {m : Nat} (h : Arel w b A n W) (hm : n ≤ m) : Arel w b A m W := ⟨_, h.choose_spec.more hm⟩
theorem Crel.step (h : Crel w b r A n C W) (ht : Frm.Turn [] W W') : Crel w b r A n C W' := by
  obtain ⟨M, h1, h2, h3, h4⟩ := h
  exact ⟨M, h1.step ht, h2.turn ht (by simp), h3, h4⟩
theorem crel_step (h : Crel w b r A n C W) (hn : n ≤ 10000000) (hf : C.Fit) :
    Calls Try.prog 13 #[.pointer (some ⟨r, 0, none⟩)] W fun e w' => e = .returned (.tuple #[]) ∧ Crel w b r (C.step A).1 (n + 1) (C.step A).2 w' := by
  obtain ⟨M, h1, h2, h3, h4⟩ := h
  refine (step_any h1 hn h2 h3 h4 hf).mono ?_
  rintro e w' ⟨he, M', k1, k2, k3, k4, k5⟩
  exact ⟨he, M', k1, k2, k3, h4⟩
theorem crel_new (h : Arel w b A n W) (tok : Int) :
    Calls Try.prog 7 #[.pointer (some ⟨b, 0, none⟩), .int .u64 tok] W fun e w' => ∃ r, e = .returned (.pointer (some ⟨r, 0, none⟩)) ∧ Crel w b r A n (Cl.new tok) w' ∧ Frm.Turn [] W w' := by
  obtain ⟨M, h1⟩ := h
  refine (new_any tok W).mono ?_
  rintro e w' ⟨he, k1, k2, k3⟩
  have := h1.turn.size
  exact ⟨_, he, ⟨M, h1.step k2, k1, fun hk => by have := h1.lt hk; omega, by omega⟩, k2⟩
/-- So many steps. -/
def runs : Nat → Ar → Cl → Ar × Cl
  | 0, A, C => (A, C)
  | n + 1, A, C => (runs n A C).2.step (runs n A C).1
def fA : Nat → Ar
  | 0 => Ar.new 99
  | k + 1 => (runs 20 (fA k) (Cl.new 7)).1
def fitB (C : Cl) : Bool := decide (C.st ≤ 5) && decide (C.slot < 255) && decide (0 ≤ C.tok ∧ C.tok < 18446744073709551616) && decide (0 ≤ C.seg ∧ C.seg < 18446744073709551616) && decide (0 ≤ C.laid ∧ C.laid < 18446744073709551616) && (decide (C.st ≠ 5) || decide (C.seg ≠ 0))
theorem fit_of {C : Cl} (h : fitB C = true) : C.Fit := by
  simp only [fitB, Bool.and_eq_true, decide_eq_true_eq, Bool.or_eq_true] at h
  obtain ⟨⟨⟨⟨⟨h1, h2⟩, h3⟩, h4⟩, h5⟩, h6⟩ := h
  exact ⟨h1, h2, h3, h4, h5, fun e => h6.resolve_left (fun h => h e)⟩
theorem first_fit : ∀ k : Fin 3, ∀ j : Fin 20, fitB (runs j.val (fA k.val) (Cl.new 7)).2 = true := by decide +kernel
theorem first_end : ∀ k : Fin 3, (runs 20 (fA k.val) (Cl.new 7)).2.own = true ∧ (runs 20 (fA k.val) (Cl.new 7)).2.slot = k.val ∧ (runs 20 (fA k.val) (Cl.new 7)).2.st = 0 ∧ (runs 20 (fA k.val) (Cl.new 7)).2.err = 0 ∧ (runs 20 (fA k.val) (Cl.new 7)).2.laid = 0 := by decide +kernel
theorem first_used : Arn.used (fA 3).L = 21 ∧ (fA 3).faults = 0 := by decide +kernel
set_option maxRecDepth 100000 in
set_option maxHeartbeats 4000000 in
theorem first_any (w : World) : Calls Try.prog 5 #[] w fun e w' => e = .returned (.bool true) ∧ Frm.Turn [] w w' := by
  have HN : Hid (Calls Try.prog 6 #[.int .i64 99] w fun e w' => ∃ b, e = .returned (.tuple #[.pointer (some ⟨b, 0, none⟩), .int .i64 0]) ∧ Arel w b (fA 0) 0 w') :=
    Lib.hid ((sin_new 99 w (by omega)).mono fun e w' ⟨b, M, he, hs⟩ => ⟨b, he, M, hs⟩)
  go_enter Try.func5, Try.ntmps5
  go_wp2_with (go_at_call 6; (with_reducible refine (HN.out).mono ?_); rintro e w1 ⟨b, rfl, h⟩; have H0 := Lib.hid h; clear h)
  clear HN
  go_loopw [11] (fun i wr => ∃ k : Nat, k ≤ 3 ∧ i = .int .i64 k ∧ Arel w b (fA k) (20 * k) wr) (fun i _ => 3 - (intOf i).toNat)
  case atStart => exact ⟨0, Nat.zero_le _, rfl, H0.out⟩
  case round =>
    obtain ⟨k, hk, rfl, hrel⟩ := hrel
    clear H0
    by_cases hlt : k < 3
    · have HNW := Lib.hid (crel_new hrel 7)
      have hk1 : (k : Int) < 3 := by omega
      clear hrel
      go_wp2_with (go_at_call 7; (with_reducible refine (HNW.out).mono ?_); rintro e w2 ⟨r, rfl, h, hT⟩; have HC0 := Lib.hid h; clear h hT)
      go_loopw [16] (fun i wz => ∃ j : Nat, j ≤ 20 ∧ i = .int .i64 j ∧ Crel w b r (runs j (fA k) (Cl.new 7)).1 (20 * k + j) (runs j (fA k) (Cl.new 7)).2 wz) (fun i _ => 20 - (intOf i).toNat)
      case atStart => exact ⟨0, Nat.zero_le _, rfl, HC0.out⟩
      case round =>
        obtain ⟨j, hj, rfl, hcr⟩ := hrel
        clear HC0 HNW
        by_cases hlt2 : j < 20
        · have HST := Lib.hid (crel_step hcr (by omega) (fit_of (first_fit ⟨k, hlt⟩ ⟨j, hlt2⟩)))
          have hj1 : (j : Int) < 20 := by omega
          clear hcr
          go_wp2_with (go_at_call 13; (with_reducible refine (HST.out).mono ?_); rintro e w4 ⟨rfl, hg⟩; have HG4 := Lib.hid hg; clear hg)
          refine ⟨⟨j + 1, by omega, by simp, HG4.out⟩, ?_⟩
          simp [intOf]; omega
        · obtain rfl : j = 20 := by omega
          obtain ⟨e1, e2, e3, e4, e5⟩ := first_end ⟨k, hlt⟩
          dsimp only at e1 e2 e3 e4 e5
          have HP : Hid (Calls Try.prog 9 #[.pointer (some ⟨r, 0, none⟩)] wr fun e w' => ∃ x : Int, e = .returned (.tuple #[.agg #[.int .u64 x, .int .i64 k], .bool true]) ∧ Frm.Turn [] wr w') := Lib.hid ((place_yes hcr.at_ e1).mono fun e w' ⟨he, ht⟩ => ⟨_, by rw [e2] at he; exact he, ht⟩)
          have HQ := Lib.hid (fun W' (ht : Frm.Turn [] wr W') => And.intro (done_any (hcr.step ht).at_ (by omega)) (And.intro (err_any (hcr.step ht).at_) (private_none (hcr.step ht).at_ e5)))
          rw [e3, e4] at HQ
          have HA1 : Hid (Arel w b (fA (k + 1)) (20 * k + 20) wr) := Lib.hid hcr.arel
          clear hcr e1 e2 e3 e4 e5
          go_wp2_with (first
            | (go_at_call 9; (with_reducible refine (HP.out).mono ?_); rintro e w4 ⟨x, rfl, ht⟩; have HT4 := Lib.hid (ht.alloc (.cells #[.int .u64 x, .int .i64 k] 34)); clear ht)
            | (go_at_call 8; (with_reducible refine ((HQ.out _ HT4.out).1).mono ?_); rintro e w5 ⟨rfl, rfl⟩)
            | (go_at_call 16; (with_reducible refine ((HQ.out _ HT4.out).2.1).mono ?_); rintro e w5 ⟨rfl, rfl⟩)
            | (go_at_call 14; (with_reducible refine ((HQ.out _ HT4.out).2.2).mono ?_); rintro e w5 ⟨rfl, rfl⟩))
          refine ⟨⟨k + 1, by omega, by simp, (HA1.out.step HT4.out).more (by omega)⟩, ?_⟩
          simp [intOf]; omega
    · obtain rfl : k = 3 := by omega
      obtain ⟨f1, f2⟩ := first_used
      obtain ⟨M, hs⟩ := hrel
      have HU := Lib.hid (used_any hs.at_)
      have HF := Lib.hid (faults_any hs.at_)
      rw [f1] at HU
      rw [f2] at HF
      have HNW := Lib.hid (new_any (b := b) 0 wr)
      have HT := Lib.hid hs.turn
      clear hs f1 f2
      go_wp2_with (first
        | (go_at_call 17; (with_reducible refine (HU.out).mono ?_); rintro e w4 ⟨rfl, rfl⟩)
        | (go_at_call 15; (with_reducible refine (HF.out).mono ?_); rintro e w4 ⟨rfl, rfl⟩)
        | (go_at_call 7; (with_reducible refine (HNW.out).mono ?_); rintro e w5 ⟨rfl, hc, ht, _⟩; have HE := Lib.hid (err_any hc); have HT5 := Lib.hid ht; clear hc ht)
        | (go_at_call 16; (with_reducible refine (HE.out).mono ?_); rintro e w6 ⟨rfl, rfl⟩))
      go_ret
      exact ⟨rfl, HT.out.trans HT5.out (by simp)⟩
end Clm
end Go.Proofs.Ytgodlddbocmcmaa
