/- Words of an arena: Read, Write, Swap, Add. -/
import Derived.Test.YtgodlddbocmcmaaArenaFind
set_option linter.unusedVariables false
set_option linter.unusedSimpArgs false
namespace Go.Proofs.Ytgodlddbocmcmaa
namespace Arn
open Go.RowKit Hp Go.Maps

theorem wrap_u64 (x : Int) : IntKind.u64.wrap x = x % 18446744073709551616 := by simp [IntKind.wrap, IntKind.bits, IntKind.signed]
theorem W64.mod (x : Int) : W64 (x % 18446744073709551616) := ⟨by omega, by omega⟩
/-- What a call of an arena leaves: the arena is A', and of the old blocks only those of the arena may have turned. -/
structure Left (b : Nat) (M : Mem) (A' : Ar) (w w' : World) : Prop where
  at_ : ArAt w' b M A'
  turn : Frm.Turn (M.foot b) w w'
theorem foot_b (M : Mem) (b : Nat) : b ∈ M.foot b := by simp [Mem.foot]
theorem turn_b {M : Mem} {b : Nat} {w w' : World} (h : Frm.Turn [b] w w') : Frm.Turn (M.foot b) w w' := h.mono (fun k hk => by simp at hk; subst hk; exact foot_b M k)

theorem read_nil (blk i : Int) (w : World) : Calls Try.prog 36 #[.pointer none, .agg #[.int .u64 blk, .int .i64 i]] w fun e w' => e = .returned (.tuple #[.int .u64 0, .int .i64 1]) ∧ Frm.Turn [] w w' := by
  go_enter Try.func36, Try.ntmps36
  go_wp2_with (go_at_call 22; (with_reducible refine (find_nil _ _ _).mono ?_); rintro e w1 ⟨rfl, ht⟩; have HT1 := Lib.hid ht; clear ht)
  go_ret2
  exact ⟨rfl, ((Frm.Turn.refl [] w).alloc _).trans HT1.out (by simp)⟩
theorem write_nil (blk i v : Int) (w : World) : Calls Try.prog 10 #[.pointer none, .agg #[.int .u64 blk, .int .i64 i], .int .u64 v] w fun e w' => e = .returned (.int .i64 1) ∧ Frm.Turn [] w w' := by
  go_enter Try.func10, Try.ntmps10
  go_wp2_with (go_at_call 22; (with_reducible refine (find_nil _ _ _).mono ?_); rintro e w1 ⟨rfl, ht⟩; have HT1 := Lib.hid ht; clear ht)
  go_ret
  exact ⟨rfl, ((Frm.Turn.refl [] w).alloc _).trans HT1.out (by simp)⟩
theorem swap_nil (blk i o v : Int) (w : World) : Calls Try.prog 41 #[.pointer none, .agg #[.int .u64 blk, .int .i64 i], .int .u64 o, .int .u64 v] w fun e w' => e = .returned (.tuple #[.bool false, .int .i64 1]) ∧ Frm.Turn [] w w' := by
  go_enter Try.func41, Try.ntmps41
  go_wp2_with (go_at_call 22; (with_reducible refine (find_nil _ _ _).mono ?_); rintro e w1 ⟨rfl, ht⟩; have HT1 := Lib.hid ht; clear ht)
  go_ret2
  exact ⟨rfl, ((Frm.Turn.refl [] w).alloc _).trans HT1.out (by simp)⟩
set_option maxHeartbeats 1000000 in
theorem read_any {w : World} {b : Nat} {M : Mem} {A : Ar} (h : ArAt w b M A) (hl : A.Low lim) (blk i : Int) (hb : W64 blk) (hi : (Lit.int .i64 i).wf = true) :
    Calls Try.prog 36 #[.pointer (some ⟨b, 0, none⟩), .agg #[.int .u64 blk, .int .i64 i]] w fun e w' =>
      e = .returned (.tuple #[.int .u64 (A.read blk i).2.1, .int .i64 (A.read blk i).2.2]) ∧ Left b M (A.read blk i).1 w w' := by
  have HF := Lib.hid (fun o => find_any (h.step ((Frm.Turn.refl [] w).alloc o)) hl blk i hi hb)
  have H := Lib.hid h
  have hlr : (A.t.reads : Int) ≤ 1000000000000 := by have := hl.reads; unfold lim at this; omega
  have hlr0 : (0 : Int) ≤ (A.t.reads : Int) := by omega
  clear h hl
  go_enter Try.func36, Try.ntmps36
  go_wp2_with fail
  refine (HF.out _).mono ?_
  rintro e w1 (⟨he, p, rfl, hp, ht⟩ | ⟨he, rfl, ha, ht⟩)
  · have hT := ((Frm.Turn.refl [] w).alloc _).trans ht (by simp)
    have ha := H.out.step hT
    have ha2 := ha.reads
    have hcell := (ha2.ptr hp (A := { A with t := { A.t with reads := A.t.reads + 1 } }) he).1
    have hc := ha.cells.c18
    have hf := ha.thaw 18
    have HA := Lib.hid ha2
    have HE := Lib.hid he
    have HT := Lib.hid hT
    have hg : ({ A with t := { A.t with reads := A.t.reads + 1 } } : Ar).get blk i = A.get blk i := rfl
    rw [hg] at hcell
    clear ha ha2 he ht hp hT hg
    go_wp2
    go_ret2
    have hr : A.read blk i = ({ A with t := { A.t with reads := A.t.reads + 1 } }, A.get blk i, 0) := by unfold Ar.read; rw [if_pos HE.out]
    rw [hr]
    exact ⟨rfl, HA.out, (HT.out.mono (by simp)).setCell (Or.inl (foot_b M b)) _⟩
  · have hne : (A.err blk i == 0) = false := beq_eq_false_iff_ne.2 he
    have hne' : (A.err blk i != 0) = true := by rw [bne_iff_ne]; exact he
    have HE := Lib.hid he
    have HA := Lib.hid ha
    have HT := Lib.hid ((((Frm.Turn.refl [] w).alloc _).mono (by simp)).trans ht (fun k hk => Or.inl hk))
    clear he ha ht
    go_wp2
    go_ret2
    have hr : A.read blk i = (A.miss, 0, A.err blk i) := by unfold Ar.read; rw [if_neg HE.out]
    rw [hr]
    exact ⟨rfl, HA.out, turn_b HT.out⟩

set_option maxHeartbeats 1000000 in
theorem write_any {w : World} {b : Nat} {M : Mem} {A : Ar} (h : ArAt w b M A) (hl : A.Low lim) (blk i v : Int) (hb : W64 blk) (hi : (Lit.int .i64 i).wf = true) (hv : W64 v) :
    Calls Try.prog 10 #[.pointer (some ⟨b, 0, none⟩), .agg #[.int .u64 blk, .int .i64 i], .int .u64 v] w fun e w' =>
      e = .returned (.int .i64 (A.write blk i v).2) ∧ Left b M (A.write blk i v).1 w w' := by
  have HF := Lib.hid (fun o => find_any (h.step ((Frm.Turn.refl [] w).alloc o)) hl blk i hi hb)
  have H := Lib.hid h
  have hlr : (A.t.writes : Int) ≤ 1000000000000 := by have := hl.writes; unfold lim at this; omega
  have hlr0 : (0 : Int) ≤ (A.t.writes : Int) := by omega
  have HV := Lib.hid hv
  clear h hl hv
  go_enter Try.func10, Try.ntmps10
  go_wp2_with fail
  refine (HF.out _).mono ?_
  rintro e w1 (⟨he, p, rfl, hp, ht⟩ | ⟨he, rfl, ha, ht⟩)
  · have hT := ((Frm.Turn.refl [] w).alloc _).trans ht (by simp)
    have ha := H.out.step hT
    obtain ⟨hcell, hfz, hfp⟩ := ha.ptr hp he
    have ha2 := ha.word hp he HV.out
    have hc := ha2.cells.c19
    have hf := ha2.thaw 19
    have ht' : ((A.set blk i v).t.writes) = A.t.writes := by unfold Ar.set; split <;> rfl
    rw [ht'] at hc
    have ha3 := ha2.writes
    rw [ht'] at ha3
    have HA := Lib.hid ha3
    have HE := Lib.hid he
    have HT := Lib.hid hT
    have HP := Lib.hid hfp
    clear ha ha2 ha3 he ht hp hT hfp ht'
    go_wp2
    go_ret
    have hr : A.write blk i v = ({ A.set blk i v with t := { A.t with writes := A.t.writes + 1 } }, 0) := by unfold Ar.write; rw [if_pos HE.out]
    rw [hr]
    have ht2 : (A.set blk i v).t = A.t := by unfold Ar.set; split <;> rfl
    have ha4 := HA.out
    rw [ht2] at ha4
    exact ⟨rfl, ha4, ((HT.out.mono (by simp)).setCell (Or.inl HP.out) _).setCell (Or.inl (foot_b M b)) _⟩
  · have hne : (A.err blk i == 0) = false := beq_eq_false_iff_ne.2 he
    have hne' : (A.err blk i != 0) = true := by rw [bne_iff_ne]; exact he
    have HE := Lib.hid he
    have HA := Lib.hid ha
    have HT := Lib.hid ((((Frm.Turn.refl [] w).alloc _).mono (by simp)).trans ht (fun k hk => Or.inl hk))
    clear he ha ht
    go_wp2
    go_ret
    have hr : A.write blk i v = (A.miss, A.err blk i) := by unfold Ar.write; rw [if_neg HE.out]
    rw [hr]
    exact ⟨rfl, HA.out, turn_b HT.out⟩

set_option maxHeartbeats 1000000 in
theorem swap_any {w : World} {b : Nat} {M : Mem} {A : Ar} (h : ArAt w b M A) (hl : A.Low lim) (blk i o v : Int) (hb : W64 blk) (hi : (Lit.int .i64 i).wf = true) (hv : W64 v) :
    Calls Try.prog 41 #[.pointer (some ⟨b, 0, none⟩), .agg #[.int .u64 blk, .int .i64 i], .int .u64 o, .int .u64 v] w fun e w' =>
      e = .returned (.tuple #[.bool (A.swap blk i o v).2.1, .int .i64 (A.swap blk i o v).2.2]) ∧ Left b M (A.swap blk i o v).1 w w' := by
  have HF := Lib.hid (fun o => find_any (h.step ((Frm.Turn.refl [] w).alloc o)) hl blk i hi hb)
  have H := Lib.hid h
  have hlr : (A.t.swaps : Int) ≤ 1000000000000 := by have := hl.swaps; unfold lim at this; omega
  have hlr0 : (0 : Int) ≤ (A.t.swaps : Int) := by omega
  have HV := Lib.hid hv
  clear h hl hv
  go_enter Try.func41, Try.ntmps41
  go_wp2_with fail
  refine (HF.out _).mono ?_
  rintro e w1 (⟨he, p, rfl, hp, ht⟩ | ⟨he, rfl, ha, ht⟩)
  · have hT := ((Frm.Turn.refl [] w).alloc _).trans ht (by simp)
    have ha := H.out.step hT
    have ha2 := ha.swaps
    obtain ⟨hcell, hfz, hfp⟩ := ha2.ptr hp (A := { A with t := { A.t with swaps := A.t.swaps + 1 } }) he
    have hc := ha.cells.c20
    have hf := ha.thaw 20
    have hg : ({ A with t := { A.t with swaps := A.t.swaps + 1 } } : Ar).get blk i = A.get blk i := rfl
    rw [hg] at hcell
    have HW := Lib.hid (ha2.word (A := { A with t := { A.t with swaps := A.t.swaps + 1 } }) hp he HV.out)
    have HA := Lib.hid ha2
    have HE := Lib.hid he
    have HT := Lib.hid hT
    have HP := Lib.hid hfp
    clear ha ha2 he ht hp hT hg hfp
    cases hev : (A.get blk i == o) with
    | true =>
      have hev' : (A.get blk i != o) = false := by simp only [bne, hev]; rfl
      go_wp2
      go_ret2
      have hr : A.swap blk i o v = ({ A.set blk i v with t := { A.t with swaps := A.t.swaps + 1 } }, true, 0) := by unfold Ar.swap; rw [if_pos HE.out, if_pos (by simpa using hev)]
      rw [hr]
      have hs : ({ A with t := { A.t with swaps := A.t.swaps + 1 } } : Ar).set blk i v = { A.set blk i v with t := { A.t with swaps := A.t.swaps + 1 } } := by unfold Ar.set; split <;> rfl
      have ha4 := HW.out
      rw [hs] at ha4
      exact ⟨rfl, ha4, ((HT.out.mono (by simp)).setCell (Or.inl (foot_b M b)) _).setCell (Or.inl HP.out) _⟩
    | false =>
      have hev' : (A.get blk i != o) = true := by simp only [bne, hev]; rfl
      go_wp2
      go_ret2
      have hr : A.swap blk i o v = ({ A with t := { A.t with swaps := A.t.swaps + 1 } }, false, 0) := by unfold Ar.swap; rw [if_pos HE.out, if_neg (by simpa using hev)]
      rw [hr]
      exact ⟨rfl, HA.out, (HT.out.mono (by simp)).setCell (Or.inl (foot_b M b)) _⟩
  · have hne : (A.err blk i == 0) = false := beq_eq_false_iff_ne.2 he
    have hne' : (A.err blk i != 0) = true := by rw [bne_iff_ne]; exact he
    have HE := Lib.hid he
    have HA := Lib.hid ha
    have HT := Lib.hid ((((Frm.Turn.refl [] w).alloc _).mono (by simp)).trans ht (fun k hk => Or.inl hk))
    clear he ha ht
    go_wp2
    go_ret2
    have hr : A.swap blk i o v = (A.miss, false, A.err blk i) := by unfold Ar.swap; rw [if_neg HE.out]
    rw [hr]
    exact ⟨rfl, HA.out, turn_b HT.out⟩

end Arn
end Go.Proofs.Ytgodlddbocmcmaa
