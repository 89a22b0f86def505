/- A word of an arena: find; Size, Tally, Words. -/
/- Words of an arena: Read, Write, Swap, Add. -/
/- A new arena; Size and Tally and Words. -/
/- A block is laid. -/
/- A block is freed. -/
/- Copies of an arena's blocks; its Clone. -/
import Derived.Test.YtpajafecodkndaaGreatArenaSmall
import Derived.Deep.QuietTactic
import Derived.BigQuiet
import Derived.Deep.DeepCutAuto
import Derived.Test.YtpajafecodkndaaGreatLeastClone
import Derived.Maps.RangeWalk
set_option linter.unusedVariables false
set_option linter.unusedSimpArgs false
namespace Go.Proofs.YtpajafecodkndaaGreat
namespace Arn
open Go.RowKit Hp Go.Maps

theorem MapAt.look_yes {w : World} {m : Nat} {B : List Row} {L : List Blk} {D : DataW Unit} (h : MapAt w m B L D) {j : Nat} {r : Row} {x : Blk} (hr : B[j]? = some r) (hx : L[j]? = some x) (he : r.h = x.h) (hw : W64 r.h) :
    (Instr.lookup 125 (.map (some m)) (.int .u64 r.h) true).run Tryz.prog w = .ok (.tuple #[.slice (some ⟨r.g, 0, none⟩) x.ws.length r.c, .bool true]) w := by
  obtain ⟨v, ps, hrun, hv⟩ := h.own.look_ok keyU mapU (zeroS w) hdr_nil (key_u64 _ hw)
  rw [h.at_ j r x hr hx] at hv
  have hh : Maps.has D (.int .u64 r.h) = true := by rw [h.has, hasH_iff]; exact ⟨x, List.mem_of_getElem? hx, he.symm⟩
  rw [hh, hdr_of hv] at hrun
  exact hrun
theorem MapAt.look_no {w : World} {m : Nat} {B : List Row} {L : List Blk} {D : DataW Unit} (h : MapAt w m B L D) {k : Int} (hk : hasH L k = false) (hw : W64 k) :
    (Instr.lookup 125 (.map (some m)) (.int .u64 k) true).run Tryz.prog w = .ok (.tuple #[.slice none 0 0, .bool false]) w := by
  obtain ⟨v, ps, hrun, hv⟩ := h.own.look_ok keyU mapU (zeroS w) hdr_nil (key_u64 _ hw)
  have hh : Maps.has D (.int .u64 k) = false := by rw [h.has]; exact hk
  rw [atKey_of_not_has hh] at hv
  rw [hh] at hrun
  rcases hdr_inv hv with ⟨rfl, _⟩ | ⟨_, _, _, _, e⟩
  · exact hrun
  · simp [hdat] at e
theorem ArAt.find_row {w : World} {b : Nat} {M : Mem} {A : Ar} (h : ArAt w b M A) {k : Int} (hk : hasH A.L k = true) : ∃ (j : Nat) (r : Row) (x : Blk), M.B[j]? = some r ∧ A.L[j]? = some x ∧ r.h = k ∧ x.h = k ∧ RowOk w r x := by
  obtain ⟨x, hx, rfl⟩ := hasH_iff.1 hk
  obtain ⟨j, hj⟩ := List.getElem?_of_mem hx
  have hjl : j < M.B.length := by have := (List.getElem?_eq_some_iff.1 hj).1; have := h.rows.1; omega
  have hr := List.getElem?_eq_getElem hjl
  have hR := h.rows.2 j _ x hr hj
  exact ⟨j, _, x, hr, hj, hR.h, rfl, hR⟩

def FindEnd (b : Nat) (M : Mem) (A : Ar) (blk i : Int) (w : World) (e : Ending) (w' : World) : Prop :=
  (A.err blk i = 0 ∧ ∃ p, e = .returned (.tuple #[.pointer (some p), .int .i64 0]) ∧ PtrAt b M blk i p ∧ Frm.Turn [] w w') ∨
  (A.err blk i ≠ 0 ∧ e = .returned (.tuple #[.pointer none, .int .i64 (A.err blk i)]) ∧ ArAt w' b M A.miss ∧ Frm.Turn [b] w w')
theorem find_nil (blk i : Int) (w : World) : Calls Tryz.prog 70 #[.pointer none, .agg #[.int .u64 blk, .int .i64 i]] w fun e w' => e = .returned (.tuple #[.pointer none, .int .i64 1]) ∧ Frm.Turn [] w w' := by
  go_enter Tryz.func70, Tryz.ntmps70
  go_wp2
  go_ret2
  exact ⟨rfl, (Frm.Turn.refl [] w).alloc _⟩

set_option maxHeartbeats 1000000 in
theorem find_fix {w : World} {b : Nat} {M : Mem} {A : Ar} (h : ArAt w b M A) (hl : A.Low lim) (i : Int) (hw : (Lit.int .i64 i).wf = true) :
    Calls Tryz.prog 70 #[.pointer (some ⟨b, 0, none⟩), .agg #[.int .u64 0, .int .i64 i]] w (FindEnd b M A 0 i w) := by
  have HL := Lib.hid hl
  have hrow : A.row 0 = some A.fixed := by simp [Ar.row]
  have hlen := h.ok.nine
  have H := Lib.hid h
  have HN := Lib.hid hlen
  have HR := Lib.hid hrow
  clear h hrow hlen hl
  have HT : Hid (∀ o, Frm.Turn [] w (w.alloc o)) := Lib.hid fun o => (Frm.Turn.refl [] w).alloc o
  by_cases h0 : i < 0
  · go_enter Tryz.func70, Tryz.ntmps70
    go_wp2_with (go_at_call 113; (with_reducible refine (fault_any (H.out.step (HT.out _)) HL.out 24).mono ?_); rintro e w1 ⟨rfl, ha, ht⟩; have HA := Lib.hid ha; have HT1 := Lib.hid ht; clear ha ht)
    go_ret2
    have he : A.err 0 i = 24 := by unfold Ar.err; rw [HR.out]; simp; omega
    exact Or.inr ⟨by rw [he]; decide, by rw [he]; rfl, HA.out, ((HT.out _).mono (by simp)).trans HT1.out (fun k hk => Or.inl hk)⟩
  · have h0' : decide (i < 0) = false := by simpa using h0
    by_cases h9 : i < 9
    · have h9' : decide (9 ≤ i) = false := by simp; omega
      have hi0 : 0 ≤ i := by omega
      go_enter Tryz.func70, Tryz.ntmps70
      go_wp2
      go_ret2
      have he : A.err 0 i = 0 := by unfold Ar.err; rw [HR.out]; simp [HN.out]; omega
      exact Or.inl ⟨he, _, rfl, Or.inl ⟨rfl, rfl⟩, HT.out _⟩
    · have h9' : decide (9 ≤ i) = true := by simp; omega
      go_enter Tryz.func70, Tryz.ntmps70
      go_wp2_with (go_at_call 113; (with_reducible refine (fault_any (H.out.step (HT.out _)) HL.out 24).mono ?_); rintro e w1 ⟨rfl, ha, ht⟩; have HA := Lib.hid ha; have HT1 := Lib.hid ht; clear ha ht)
      go_ret2
      have he : A.err 0 i = 24 := by unfold Ar.err; rw [HR.out]; simp [HN.out]; omega
      exact Or.inr ⟨by rw [he]; decide, by rw [he]; rfl, HA.out, ((HT.out _).mono (by simp)).trans HT1.out (fun k hk => Or.inl hk)⟩

set_option maxHeartbeats 1000000 in
theorem find_gone {w : World} {b : Nat} {M : Mem} {A : Ar} (h : ArAt w b M A) (hl : A.Low lim) (blk i : Int) (hb : W64 blk) (h0 : blk ≠ 0) (hk : hasH A.L blk = false) :
    Calls Tryz.prog 70 #[.pointer (some ⟨b, 0, none⟩), .agg #[.int .u64 blk, .int .i64 i]] w (FindEnd b M A blk i w) := by
  have HL := Lib.hid hl
  have he : A.err blk i = 23 := by unfold Ar.err Ar.row; rw [if_neg h0, look_none.2 hk]
  have HE := Lib.hid he
  obtain ⟨D, hD⟩ := h.map
  have HLK : Hid (∀ W, Frm.Turn [] w W → (Instr.lookup 125 (.map (some M.m)) (.int .u64 blk) true).run Tryz.prog W = .ok (.tuple #[.slice none 0 0, .bool false]) W) := Lib.hid fun W hT => (hD.turn hT (by simp)).look_no hk hb
  have hlk : ∀ nq o, (Instr.lookup 125 (.map (some M.m)) (.int .u64 blk) true).run Tryz.prog ((w.alloc o).drewN nq) = .ok (.tuple #[.slice none 0 0, .bool false]) ((w.alloc o).drewN nq) := fun nq o => HLK.out _ (((Frm.Turn.refl [] w).alloc o).drewN nq)
  have hc := h.cells.c11
  have hbl := h.b_lt
  have H := Lib.hid h
  clear h hD hl hk he
  have hne : (blk == 0) = false := beq_eq_false_iff_ne.2 h0
  have hne' : (blk != 0) = true := by rw [bne_iff_ne]; exact h0
  clear h0
  have HT : Hid (∀ o, Frm.Turn [] w (w.alloc o)) := Lib.hid fun o => (Frm.Turn.refl [] w).alloc o
  go_enter Tryz.func70, Tryz.ntmps70
  go_wp2
  go_quiet (fail)
  go_wp2_with (go_at_call 113; (with_reducible refine (fault_any (H.out.step ((HT.out _).drewN _)) HL.out 23).mono ?_); rintro e w1 ⟨rfl, ha, ht⟩; have HA := Lib.hid ha; have HT1 := Lib.hid ht; clear ha ht)
  go_ret2
  exact Or.inr ⟨by rw [HE.out]; decide, by rw [HE.out]; rfl, HA.out, (((HT.out _).drewN _).mono (by simp)).trans HT1.out (fun k hk => Or.inl hk)⟩

set_option maxHeartbeats 2000000 in
theorem find_live {w : World} {b : Nat} {M : Mem} {A : Ar} (h : ArAt w b M A) (hl : A.Low lim) (blk i : Int) (hw : (Lit.int .i64 i).wf = true) (hb : W64 blk) (h0 : blk ≠ 0) (hk : hasH A.L blk = true) :
    Calls Tryz.prog 70 #[.pointer (some ⟨b, 0, none⟩), .agg #[.int .u64 blk, .int .i64 i]] w (FindEnd b M A blk i w) := by
  have HL := Lib.hid hl
  obtain ⟨j, r, x, hr, hx, hrh, hxh, hR⟩ := h.find_row hk
  have HROW : Hid (A.row blk = some x.ws) := Lib.hid (by unfold Ar.row; rw [if_neg h0]; exact h.ok.look_some.2 ⟨x, List.mem_of_getElem? hx, hxh, rfl⟩)
  obtain ⟨D, hD⟩ := h.map
  have HLK : Hid (∀ W, Frm.Turn [] w W → (Instr.lookup 125 (.map (some M.m)) (.int .u64 blk) true).run Tryz.prog W = .ok (.tuple #[.slice (some ⟨r.g, 0, none⟩) x.ws.length r.c, .bool true]) W) := Lib.hid fun W hT => by
    have := (hD.turn hT (by simp)).look_yes hr hx (by rw [hrh, hxh]) (by rw [hrh]; exact hb)
    rw [hrh] at this; exact this
  have hxl := (h.ok.len x (List.mem_of_getElem? hx)).2
  obtain ⟨n, HN⟩ : ∃ n, Hid (n = x.ws.length) := ⟨_, Lib.hid rfl⟩
  rw [← HN.out] at hxl HLK
  have hlk : ∀ nq o, (Instr.lookup 125 (.map (some M.m)) (.int .u64 blk) true).run Tryz.prog ((w.alloc o).drewN nq) = .ok (.tuple #[.slice (some ⟨r.g, 0, none⟩) n r.c, .bool true]) ((w.alloc o).drewN nq) := fun nq o => HLK.out _ (((Frm.Turn.refl [] w).alloc o).drewN nq)
  have hc := h.cells.c11
  have hbl := h.b_lt
  have H := Lib.hid h
  have HP : Hid (∀ i, PtrAt b M blk i ⟨r.g, i.toNat, none⟩) := Lib.hid fun i => Or.inr ⟨h0, j, r, hr, hrh, rfl⟩
  clear h hD hl hk hr hx hrh hxh hR
  have hne : (blk == 0) = false := beq_eq_false_iff_ne.2 h0
  have hne' : (blk != 0) = true := by rw [bne_iff_ne]; exact h0
  clear h0
  have HT : Hid (∀ o, Frm.Turn [] w (w.alloc o)) := Lib.hid fun o => (Frm.Turn.refl [] w).alloc o
  by_cases h0 : i < 0
  · go_enter Tryz.func70, Tryz.ntmps70
    go_wp2
    go_quiet (fail)
    go_wp2_with (go_at_call 113; (with_reducible refine (fault_any (H.out.step ((HT.out _).drewN _)) HL.out 24).mono ?_); rintro e w1 ⟨rfl, ha, ht⟩; have HA := Lib.hid ha; have HT1 := Lib.hid ht; clear ha ht)
    go_ret2
    have he : A.err blk i = 24 := by unfold Ar.err; rw [HROW.out]; simp; omega
    exact Or.inr ⟨by rw [he]; decide, by rw [he]; rfl, HA.out, (((HT.out _).drewN _).mono (by simp)).trans HT1.out (fun k hk => Or.inl hk)⟩
  · have h0' : decide (i < 0) = false := by simpa using h0
    by_cases h9 : i < n
    · have h9' : decide ((n : Int) ≤ i) = false := by simp; omega
      have hi0 : 0 ≤ i := by omega
      go_enter Tryz.func70, Tryz.ntmps70
      go_wp2
      go_quiet (fail)
      go_wp2
      go_ret2
      have he : A.err blk i = 0 := by unfold Ar.err; rw [HROW.out]; simp [← HN.out]; omega
      exact Or.inl ⟨he, _, rfl, HP.out i, (HT.out _).drewN _⟩
    · have h9' : decide ((n : Int) ≤ i) = true := by simp; omega
      go_enter Tryz.func70, Tryz.ntmps70
      go_wp2
      go_quiet (fail)
      go_wp2_with (go_at_call 113; (with_reducible refine (fault_any (H.out.step ((HT.out _).drewN _)) HL.out 24).mono ?_); rintro e w1 ⟨rfl, ha, ht⟩; have HA := Lib.hid ha; have HT1 := Lib.hid ht; clear ha ht)
      go_ret2
      have he : A.err blk i = 24 := by unfold Ar.err; rw [HROW.out]; simp [← HN.out]; omega
      exact Or.inr ⟨by rw [he]; decide, by rw [he]; rfl, HA.out, (((HT.out _).drewN _).mono (by simp)).trans HT1.out (fun k hk => Or.inl hk)⟩
theorem find_any {w : World} {b : Nat} {M : Mem} {A : Ar} (h : ArAt w b M A) (hl : A.Low lim) (blk i : Int) (hw : (Lit.int .i64 i).wf = true) (hb : W64 blk) :
    Calls Tryz.prog 70 #[.pointer (some ⟨b, 0, none⟩), .agg #[.int .u64 blk, .int .i64 i]] w (FindEnd b M A blk i w) := by
  by_cases h0 : blk = 0
  · subst h0; exact find_fix h hl i hw
  · cases hk : hasH A.L blk with
    | false => exact find_gone h hl blk i hb h0 hk
    | true => exact find_live h hl blk i hw hb h0 hk
end Arn
end Go.Proofs.YtpajafecodkndaaGreat

set_option linter.unusedVariables false
set_option linter.unusedSimpArgs false
namespace Go.Proofs.YtpajafecodkndaaGreat
namespace Arn
open Go.RowKit Hp Go.Maps

theorem wrap_u64 (x : Int) : IntKind.u64.wrap x = x % 18446744073709551616 := by simp [IntKind.wrap, IntKind.bits, IntKind.signed]
theorem W64.mod (x : Int) : W64 (x % 18446744073709551616) := ⟨by omega, by omega⟩
/-- What a call of an arena leaves: the arena is A', and of the old blocks only those of the arena may have turned. -/
structure Left (b : Nat) (M : Mem) (A' : Ar) (w w' : World) : Prop where
  at_ : ArAt w' b M A'
  turn : Frm.Turn (M.foot b) w w'
theorem foot_b (M : Mem) (b : Nat) : b ∈ M.foot b := by simp [Mem.foot]
theorem turn_b {M : Mem} {b : Nat} {w w' : World} (h : Frm.Turn [b] w w') : Frm.Turn (M.foot b) w w' := h.mono (fun k hk => by simp at hk; subst hk; exact foot_b M k)

theorem read_nil (blk i : Int) (w : World) : Calls Tryz.prog 58 #[.pointer none, .agg #[.int .u64 blk, .int .i64 i]] w fun e w' => e = .returned (.tuple #[.int .u64 0, .int .i64 1]) ∧ Frm.Turn [] w w' := by
  go_enter Tryz.func58, Tryz.ntmps58
  go_wp2_with (go_at_call 70; (with_reducible refine (find_nil _ _ _).mono ?_); rintro e w1 ⟨rfl, ht⟩; have HT1 := Lib.hid ht; clear ht)
  go_ret2
  exact ⟨rfl, ((Frm.Turn.refl [] w).alloc _).trans HT1.out (by simp)⟩
theorem write_nil (blk i v : Int) (w : World) : Calls Tryz.prog 15 #[.pointer none, .agg #[.int .u64 blk, .int .i64 i], .int .u64 v] w fun e w' => e = .returned (.int .i64 1) ∧ Frm.Turn [] w w' := by
  go_enter Tryz.func15, Tryz.ntmps15
  go_wp2_with (go_at_call 70; (with_reducible refine (find_nil _ _ _).mono ?_); rintro e w1 ⟨rfl, ht⟩; have HT1 := Lib.hid ht; clear ht)
  go_ret
  exact ⟨rfl, ((Frm.Turn.refl [] w).alloc _).trans HT1.out (by simp)⟩
theorem swap_nil (blk i o v : Int) (w : World) : Calls Tryz.prog 218 #[.pointer none, .agg #[.int .u64 blk, .int .i64 i], .int .u64 o, .int .u64 v] w fun e w' => e = .returned (.tuple #[.bool false, .int .i64 1]) ∧ Frm.Turn [] w w' := by
  go_enter Tryz.func218, Tryz.ntmps218
  go_wp2_with (go_at_call 70; (with_reducible refine (find_nil _ _ _).mono ?_); rintro e w1 ⟨rfl, ht⟩; have HT1 := Lib.hid ht; clear ht)
  go_ret2
  exact ⟨rfl, ((Frm.Turn.refl [] w).alloc _).trans HT1.out (by simp)⟩
theorem add_nil (blk i v : Int) (w : World) : Calls Tryz.prog 101 #[.pointer none, .agg #[.int .u64 blk, .int .i64 i], .int .u64 v] w fun e w' => e = .returned (.tuple #[.int .u64 0, .int .i64 1]) ∧ Frm.Turn [] w w' := by
  go_enter Tryz.func101, Tryz.ntmps101
  go_wp2_with (go_at_call 70; (with_reducible refine (find_nil _ _ _).mono ?_); rintro e w1 ⟨rfl, ht⟩; have HT1 := Lib.hid ht; clear ht)
  go_ret2
  exact ⟨rfl, ((Frm.Turn.refl [] w).alloc _).trans HT1.out (by simp)⟩

set_option maxHeartbeats 1000000 in
theorem read_any {w : World} {b : Nat} {M : Mem} {A : Ar} (h : ArAt w b M A) (hl : A.Low lim) (blk i : Int) (hb : W64 blk) (hi : (Lit.int .i64 i).wf = true) :
    Calls Tryz.prog 58 #[.pointer (some ⟨b, 0, none⟩), .agg #[.int .u64 blk, .int .i64 i]] w fun e w' =>
      e = .returned (.tuple #[.int .u64 (A.read blk i).2.1, .int .i64 (A.read blk i).2.2]) ∧ Left b M (A.read blk i).1 w w' := by
  have HF := Lib.hid (fun o => find_any (h.step ((Frm.Turn.refl [] w).alloc o)) hl blk i hi hb)
  have H := Lib.hid h
  have hlr : (A.t.reads : Int) ≤ 1000000000000 := by have := hl.reads; unfold lim at this; omega
  have hlr0 : (0 : Int) ≤ (A.t.reads : Int) := by omega
  clear h hl
  go_enter Tryz.func58, Tryz.ntmps58
  go_wp2_with fail
  refine (HF.out _).mono ?_
  rintro e w1 (⟨he, p, rfl, hp, ht⟩ | ⟨he, rfl, ha, ht⟩)
  · have hT := ((Frm.Turn.refl [] w).alloc _).trans ht (by simp)
    have ha := H.out.step hT
    have ha2 := ha.reads
    have hcell := (ha2.ptr hp (A := { A with t := { A.t with reads := A.t.reads + 1 } }) he).1
    have hc := ha.cells.c18
    have hf := ha.thaw 18
    have HA := Lib.hid ha2
    have HE := Lib.hid he
    have HT := Lib.hid hT
    have hg : ({ A with t := { A.t with reads := A.t.reads + 1 } } : Ar).get blk i = A.get blk i := rfl
    rw [hg] at hcell
    clear ha ha2 he ht hp hT hg
    go_wp2
    go_ret2
    have hr : A.read blk i = ({ A with t := { A.t with reads := A.t.reads + 1 } }, A.get blk i, 0) := by unfold Ar.read; rw [if_pos HE.out]
    rw [hr]
    exact ⟨rfl, HA.out, (HT.out.mono (by simp)).setCell (Or.inl (foot_b M b)) _⟩
  · have hne : (A.err blk i == 0) = false := beq_eq_false_iff_ne.2 he
    have hne' : (A.err blk i != 0) = true := by rw [bne_iff_ne]; exact he
    have HE := Lib.hid he
    have HA := Lib.hid ha
    have HT := Lib.hid ((((Frm.Turn.refl [] w).alloc _).mono (by simp)).trans ht (fun k hk => Or.inl hk))
    clear he ha ht
    go_wp2
    go_ret2
    have hr : A.read blk i = (A.miss, 0, A.err blk i) := by unfold Ar.read; rw [if_neg HE.out]
    rw [hr]
    exact ⟨rfl, HA.out, turn_b HT.out⟩

set_option maxHeartbeats 1000000 in
theorem write_any {w : World} {b : Nat} {M : Mem} {A : Ar} (h : ArAt w b M A) (hl : A.Low lim) (blk i v : Int) (hb : W64 blk) (hi : (Lit.int .i64 i).wf = true) (hv : W64 v) :
    Calls Tryz.prog 15 #[.pointer (some ⟨b, 0, none⟩), .agg #[.int .u64 blk, .int .i64 i], .int .u64 v] w fun e w' =>
      e = .returned (.int .i64 (A.write blk i v).2) ∧ Left b M (A.write blk i v).1 w w' := by
  have HF := Lib.hid (fun o => find_any (h.step ((Frm.Turn.refl [] w).alloc o)) hl blk i hi hb)
  have H := Lib.hid h
  have hlr : (A.t.writes : Int) ≤ 1000000000000 := by have := hl.writes; unfold lim at this; omega
  have hlr0 : (0 : Int) ≤ (A.t.writes : Int) := by omega
  have HV := Lib.hid hv
  clear h hl hv
  go_enter Tryz.func15, Tryz.ntmps15
  go_wp2_with fail
  refine (HF.out _).mono ?_
  rintro e w1 (⟨he, p, rfl, hp, ht⟩ | ⟨he, rfl, ha, ht⟩)
  · have hT := ((Frm.Turn.refl [] w).alloc _).trans ht (by simp)
    have ha := H.out.step hT
    obtain ⟨hcell, hfz, hfp⟩ := ha.ptr hp he
    have ha2 := ha.word hp he HV.out
    have hc := ha2.cells.c19
    have hf := ha2.thaw 19
    have ht' : ((A.set blk i v).t.writes) = A.t.writes := by unfold Ar.set; split <;> rfl
    rw [ht'] at hc
    have ha3 := ha2.writes
    rw [ht'] at ha3
    have HA := Lib.hid ha3
    have HE := Lib.hid he
    have HT := Lib.hid hT
    have HP := Lib.hid hfp
    clear ha ha2 ha3 he ht hp hT hfp ht'
    go_wp2
    go_ret
    have hr : A.write blk i v = ({ A.set blk i v with t := { A.t with writes := A.t.writes + 1 } }, 0) := by unfold Ar.write; rw [if_pos HE.out]
    rw [hr]
    have ht2 : (A.set blk i v).t = A.t := by unfold Ar.set; split <;> rfl
    have ha4 := HA.out
    rw [ht2] at ha4
    exact ⟨rfl, ha4, ((HT.out.mono (by simp)).setCell (Or.inl HP.out) _).setCell (Or.inl (foot_b M b)) _⟩
  · have hne : (A.err blk i == 0) = false := beq_eq_false_iff_ne.2 he
    have hne' : (A.err blk i != 0) = true := by rw [bne_iff_ne]; exact he
    have HE := Lib.hid he
    have HA := Lib.hid ha
    have HT := Lib.hid ((((Frm.Turn.refl [] w).alloc _).mono (by simp)).trans ht (fun k hk => Or.inl hk))
    clear he ha ht
    go_wp2
    go_ret
    have hr : A.write blk i v = (A.miss, A.err blk i) := by unfold Ar.write; rw [if_neg HE.out]
    rw [hr]
    exact ⟨rfl, HA.out, turn_b HT.out⟩

set_option maxHeartbeats 1000000 in
theorem swap_any {w : World} {b : Nat} {M : Mem} {A : Ar} (h : ArAt w b M A) (hl : A.Low lim) (blk i o v : Int) (hb : W64 blk) (hi : (Lit.int .i64 i).wf = true) (hv : W64 v) :
    Calls Tryz.prog 218 #[.pointer (some ⟨b, 0, none⟩), .agg #[.int .u64 blk, .int .i64 i], .int .u64 o, .int .u64 v] w fun e w' =>
      e = .returned (.tuple #[.bool (A.swap blk i o v).2.1, .int .i64 (A.swap blk i o v).2.2]) ∧ Left b M (A.swap blk i o v).1 w w' := by
  have HF := Lib.hid (fun o => find_any (h.step ((Frm.Turn.refl [] w).alloc o)) hl blk i hi hb)
  have H := Lib.hid h
  have hlr : (A.t.swaps : Int) ≤ 1000000000000 := by have := hl.swaps; unfold lim at this; omega
  have hlr0 : (0 : Int) ≤ (A.t.swaps : Int) := by omega
  have HV := Lib.hid hv
  clear h hl hv
  go_enter Tryz.func218, Tryz.ntmps218
  go_wp2_with fail
  refine (HF.out _).mono ?_
  rintro e w1 (⟨he, p, rfl, hp, ht⟩ | ⟨he, rfl, ha, ht⟩)
  · have hT := ((Frm.Turn.refl [] w).alloc _).trans ht (by simp)
    have ha := H.out.step hT
    have ha2 := ha.swaps
    obtain ⟨hcell, hfz, hfp⟩ := ha2.ptr hp (A := { A with t := { A.t with swaps := A.t.swaps + 1 } }) he
    have hc := ha.cells.c20
    have hf := ha.thaw 20
    have hg : ({ A with t := { A.t with swaps := A.t.swaps + 1 } } : Ar).get blk i = A.get blk i := rfl
    rw [hg] at hcell
    have HW := Lib.hid (ha2.word (A := { A with t := { A.t with swaps := A.t.swaps + 1 } }) hp he HV.out)
    have HA := Lib.hid ha2
    have HE := Lib.hid he
    have HT := Lib.hid hT
    have HP := Lib.hid hfp
    clear ha ha2 he ht hp hT hg hfp
    cases hev : (A.get blk i == o) with
    | true =>
      have hev' : (A.get blk i != o) = false := by simp only [bne, hev]; rfl
      go_wp2
      go_ret2
      have hr : A.swap blk i o v = ({ A.set blk i v with t := { A.t with swaps := A.t.swaps + 1 } }, true, 0) := by unfold Ar.swap; rw [if_pos HE.out, if_pos (by simpa using hev)]
      rw [hr]
      have hs : ({ A with t := { A.t with swaps := A.t.swaps + 1 } } : Ar).set blk i v = { A.set blk i v with t := { A.t with swaps := A.t.swaps + 1 } } := by unfold Ar.set; split <;> rfl
      have ha4 := HW.out
      rw [hs] at ha4
      exact ⟨rfl, ha4, ((HT.out.mono (by simp)).setCell (Or.inl (foot_b M b)) _).setCell (Or.inl HP.out) _⟩
    | false =>
      have hev' : (A.get blk i != o) = true := by simp only [bne, hev]; rfl
      go_wp2
      go_ret2
      have hr : A.swap blk i o v = ({ A with t := { A.t with swaps := A.t.swaps + 1 } }, false, 0) := by unfold Ar.swap; rw [if_pos HE.out, if_neg (by simpa using hev)]
      rw [hr]
      exact ⟨rfl, HA.out, (HT.out.mono (by simp)).setCell (Or.inl (foot_b M b)) _⟩
  · have hne : (A.err blk i == 0) = false := beq_eq_false_iff_ne.2 he
    have hne' : (A.err blk i != 0) = true := by rw [bne_iff_ne]; exact he
    have HE := Lib.hid he
    have HA := Lib.hid ha
    have HT := Lib.hid ((((Frm.Turn.refl [] w).alloc _).mono (by simp)).trans ht (fun k hk => Or.inl hk))
    clear he ha ht
    go_wp2
    go_ret2
    have hr : A.swap blk i o v = (A.miss, false, A.err blk i) := by unfold Ar.swap; rw [if_neg HE.out]
    rw [hr]
    exact ⟨rfl, HA.out, turn_b HT.out⟩

set_option maxHeartbeats 1000000 in
theorem add_any {w : World} {b : Nat} {M : Mem} {A : Ar} (h : ArAt w b M A) (hl : A.Low lim) (blk i v : Int) (hb : W64 blk) (hi : (Lit.int .i64 i).wf = true) (hv : W64 v) :
    Calls Tryz.prog 101 #[.pointer (some ⟨b, 0, none⟩), .agg #[.int .u64 blk, .int .i64 i], .int .u64 v] w fun e w' =>
      e = .returned (.tuple #[.int .u64 (A.add blk i v).2.1, .int .i64 (A.add blk i v).2.2]) ∧ Left b M (A.add blk i v).1 w w' := by
  have HF := Lib.hid (fun o => find_any (h.step ((Frm.Turn.refl [] w).alloc o)) hl blk i hi hb)
  have H := Lib.hid h
  have hlr : (A.t.adds : Int) ≤ 1000000000000 := by have := hl.adds; unfold lim at this; omega
  have hlr0 : (0 : Int) ≤ (A.t.adds : Int) := by omega
  clear h hl hv
  go_enter Tryz.func101, Tryz.ntmps101
  go_wp2_with fail
  refine (HF.out _).mono ?_
  rintro e w1 (⟨he, p, rfl, hp, ht⟩ | ⟨he, rfl, ha, ht⟩)
  · have hT := ((Frm.Turn.refl [] w).alloc _).trans ht (by simp)
    have ha := H.out.step hT
    obtain ⟨hcell, hfz, hfp⟩ := ha.ptr hp he
    have ha2 := ha.word hp he (W64.mod (A.get blk i + v))
    rw [← wrap_u64] at ha2
    have hc := ha2.cells.c21
    have hf := ha2.thaw 21
    have ht' : ((A.set blk i (IntKind.u64.wrap (A.get blk i + v))).t.adds) = A.t.adds := by unfold Ar.set; split <;> rfl
    rw [ht'] at hc
    have ha3 := ha2.adds
    rw [ht'] at ha3
    have HA := Lib.hid ha3
    have HE := Lib.hid he
    have HT := Lib.hid hT
    have HP := Lib.hid hfp
    clear ha ha2 ha3 he ht hp hT hfp ht'
    go_wp2
    go_ret2
    have hr : A.add blk i v = ({ A.set blk i ((A.get blk i + v) % 18446744073709551616) with t := { A.t with adds := A.t.adds + 1 } }, A.get blk i, 0) := by unfold Ar.add; rw [if_pos HE.out]
    rw [hr]
    have ha4 := HA.out
    have ht2 : (A.set blk i (IntKind.u64.wrap (A.get blk i + v))).t = A.t := by unfold Ar.set; split <;> rfl
    rw [ht2, wrap_u64] at ha4
    exact ⟨rfl, ha4, ((HT.out.mono (by simp)).setCell (Or.inl HP.out) _).setCell (Or.inl (foot_b M b)) _⟩
  · have hne : (A.err blk i == 0) = false := beq_eq_false_iff_ne.2 he
    have hne' : (A.err blk i != 0) = true := by rw [bne_iff_ne]; exact he
    have HE := Lib.hid he
    have HA := Lib.hid ha
    have HT := Lib.hid ((((Frm.Turn.refl [] w).alloc _).mono (by simp)).trans ht (fun k hk => Or.inl hk))
    clear he ha ht
    go_wp2
    go_ret2
    have hr : A.add blk i v = (A.miss, 0, A.err blk i) := by unfold Ar.add; rw [if_neg HE.out]
    rw [hr]
    exact ⟨rfl, HA.out, turn_b HT.out⟩
end Arn
end Go.Proofs.YtpajafecodkndaaGreat

set_option linter.unusedVariables false
set_option linter.unusedSimpArgs false
namespace Go.Proofs.YtpajafecodkndaaGreat
namespace Arn
open Go.RowKit Hp Go.Maps

theorem new_no (cap : Int) (w : World) (h : cap < 0 ∨ 60000 < cap) :
    Calls Tryz.prog 59 #[.int .i64 cap] w fun e w' => e = .returned (.tuple #[.pointer none, .int .i64 2]) ∧ w = w' := by
  rcases h with h | h
  · go_enter Tryz.func59, Tryz.ntmps59
    go_wp2
    go_ret2
    exact ⟨rfl, rfl⟩
  · have h0 : decide (cap < 0) = false := by simp; omega
    go_enter Tryz.func59, Tryz.ntmps59
    go_wp2
    go_ret2
    exact ⟨rfl, rfl⟩
theorem new_at {w w1 : World} {sb : Nat} {Fs : List Nat} (cap : Nat) (hc : cap ≤ 60000) (hs : Lst.StockAt w1 sb Fs ⟨65535, 0, []⟩) (hT : Frm.Turn [] w w1) (hf : ∀ k, k ∈ Fs → w.heap.size ≤ k) :
    ∃ M, ArAt ((w1.alloc (.map #[] 0)).alloc (.cells #[.int .i64 (cap : Int), .int .u64 0, .int .u64 0, .int .u64 0, .int .u64 0, .int .u64 0, .int .u64 0, .int .u64 0, .int .u64 0, .int .u64 0, .int .u64 0, .map (some w1.heap.size), .pointer (some ⟨sb, 0, none⟩), .int .i64 0, .int .i64 0, .int .i64 0, .int .i64 0, .int .i64 0, .int .i64 0, .int .i64 0, .int .i64 0, .int .i64 0] 128)) (w1.heap.size + 1) M (Ar.new cap) ∧ ∀ k, k ∈ M.foot (w1.heap.size + 1) → w.heap.size ≤ k := by
  have hsz := hT.size
  have hT2 : Frm.Turn [] w1 ((w1.alloc (.map #[] 0)).alloc (.cells #[.int .i64 (cap : Int), .int .u64 0, .int .u64 0, .int .u64 0, .int .u64 0, .int .u64 0, .int .u64 0, .int .u64 0, .int .u64 0, .int .u64 0, .int .u64 0, .map (some w1.heap.size), .pointer (some ⟨sb, 0, none⟩), .int .i64 0, .int .i64 0, .int .i64 0, .int .i64 0, .int .i64 0, .int .i64 0, .int .i64 0, .int .i64 0, .int .i64 0] 128)) := ((Frm.Turn.refl [] w1).alloc _).alloc _
  have hlt := hs.lt
  refine ⟨⟨w1.heap.size, sb, Fs, []⟩, ⟨new_ok hc, ?_, ⟨_, hs.turn hT2 (by simp), rfl, fun k => by rw [used_new]; rfl⟩, ⟨.map [], ?_, rfl, fun k => rfl, by simp⟩, ⟨rfl, by simp⟩, by simp, fun k hk => ?_⟩, fun k hk => ?_⟩
  · have := (MapKept.heap_alloc (w1.alloc (.map #[] 0)) (.cells #[.int .i64 (cap : Int), .int .u64 0, .int .u64 0, .int .u64 0, .int .u64 0, .int .u64 0, .int .u64 0, .int .u64 0, .int .u64 0, .int .u64 0, .int .u64 0, .map (some w1.heap.size), .pointer (some ⟨sb, 0, none⟩), .int .i64 0, .int .i64 0, .int .i64 0, .int .i64 0, .int .i64 0, .int .i64 0, .int .i64 0, .int .i64 0, .int .i64 0] 128)).1
    rw [World.size_alloc] at this
    rw [this]
    simp [Ar.cells, Ar.new, u64s, used, List.replicate]
  · exact (World.ownsMap_made w1 Tryz.prog 31 hdr).alloc _
  · have := hlt k hk
    simp; omega
  · simp [Mem.foot] at hk
    rcases hk with rfl | rfl | hk
    · omega
    · omega
    · exact hf k hk
theorem new_yes (cap : Nat) (w : World) (hc : cap ≤ 60000) :
    Calls Tryz.prog 59 #[.int .i64 (cap : Int)] w fun e w' => ∃ b M, e = .returned (.tuple #[.pointer (some ⟨b, 0, none⟩), .int .i64 0]) ∧ ArAt w' b M (Ar.new cap) ∧ (∀ k, k ∈ M.foot b → w.heap.size ≤ k) ∧ Frm.Turn [] w w' := by
  have h0 : decide ((cap : Int) < 0) = false := by simp
  have h1 : decide (60000 < (cap : Int)) = false := by simp; omega
  have hmm := @run_makeMap Tryz.prog
  go_enter Tryz.func59, Tryz.ntmps59
  go_wp2_with fail
  refine (Lst.new_yes 65535 _ (by omega)).mono ?_
  rintro e w1 ⟨sb, Fs, rfl, hs, hT, hf⟩
  have HN := Lib.hid (new_at cap hc hs hT hf)
  have HT := Lib.hid hT
  clear hs hT hf
  go_wp2
  go_ret2
  obtain ⟨M, hA, hM⟩ := HN.out
  exact ⟨_, M, rfl, hA, hM, (HT.out.alloc _).alloc _⟩

theorem tally_any {w : World} {b : Nat} {M : Mem} {A : Ar} (h : ArAt w b M A) : Calls Tryz.prog 85 #[.pointer (some ⟨b, 0, none⟩)] w fun e w' => e = .returned (tal A.t) ∧ Frm.Turn [] w w' := by
  have hbl := h.b_lt
  have hc := h.cells.c16
  have hc1 := h.cells.c17
  have hc2 := h.cells.c18
  have hc3 := h.cells.c19
  have hc4 := h.cells.c20
  have hc5 := h.cells.c21
  clear h
  go_enter Tryz.func85, Tryz.ntmps85
  go_wp2
  exact bodyPost_ret (v := tal A.t) (by simp [results, Tryz.results85, go_sem, tal]) rfl ⟨rfl, (Frm.Turn.refl [] w).alloc _⟩
theorem tally_nil (w : World) : Calls Tryz.prog 85 #[.pointer none] w fun e w' => e = .returned (tal ⟨0, 0, 0, 0, 0, 0⟩) ∧ Frm.Turn [] w w' := by
  go_enter Tryz.func85, Tryz.ntmps85
  go_wp2
  exact bodyPost_ret (v := tal ⟨0, 0, 0, 0, 0, 0⟩) (by simp [results, Tryz.results85, go_sem, tal]) rfl ⟨rfl, (Frm.Turn.refl [] w).alloc _⟩
def Ar.size (A : Ar) (k : Int) : Nat := ((look A.L k).getD []).length
theorem size_any {w : World} {b : Nat} {M : Mem} {A : Ar} (h : ArAt w b M A) (k : Int) (hk : W64 k) : Calls Tryz.prog 56 #[.pointer (some ⟨b, 0, none⟩), .int .u64 k] w fun e w' => e = .returned (.int .i64 (A.size k : Int)) ∧ w = w' := by
  have hc := h.cells.c11
  obtain ⟨D, hD⟩ := h.map
  obtain ⟨v, ps, hrun, hv⟩ := hD.own.lookup keyU mapU (zeroS w) hdr_nil (key_u64 k hk)
  have hs : ∃ a c, v = .slice a (A.size k) c := by
    cases hh : hasH A.L k with
    | false =>
      have h0 : Maps.has D (.int .u64 k) = false := by rw [hD.has]; exact hh
      rw [atKey_of_not_has h0] at hv
      rcases hdr_inv hv with ⟨rfl, _⟩ | ⟨_, _, _, _, e⟩
      · refine ⟨none, 0, ?_⟩
        unfold Ar.size; rw [look_none.2 hh]; rfl
      · simp [hdat] at e
    | true =>
      obtain ⟨j, r, x, hr, hx, hrh, hxh, hR⟩ := h.find_row hh
      rw [← hrh, hD.at_ j r x hr hx] at hv
      refine ⟨some ⟨r.g, 0, none⟩, r.c, (hdr_of hv).trans ?_⟩
      unfold Ar.size
      rw [h.ok.look_some.2 ⟨x, List.mem_of_getElem? hx, hxh, rfl⟩]; rfl
  obtain ⟨a, c, rfl⟩ := hs
  clear hv hD h
  go_enter Tryz.func56, Tryz.ntmps56
  go_wp2
  go_ret
  exact ⟨rfl, rfl⟩
theorem words_any {w : World} {b : Nat} {M : Mem} {A : Ar} (h : ArAt w b M A) : Calls Tryz.prog 78 #[.pointer (some ⟨b, 0, none⟩)] w (CloneOf w A.fixed) := by
  have hn := h.ok.nine
  have hcl := uclone_some ⟨b, 2, none⟩ 9 A.fixed w (fun j u hu => by
    have hadd : (⟨b, 2, none⟩ : Addr).add j = ⟨b, 2 + j, none⟩ := by
      unfold Addr.add; split
      · rename_i e; simp [e]
      · rfl
    rw [hadd]
    simp [u64s] at hu
    obtain ⟨x, hx, rfl⟩ := hu
    exact h.fix hx) (by omega)
  rw [hn] at hcl
  have HC := Lib.hid hcl
  clear hcl h hn
  go_enter Tryz.func78, Tryz.ntmps78
  go_wp2_with (go_at_call 63; (with_reducible refine (HC.out).mono ?_); rintro e w1 ⟨g', c', rfl, ho, hg, ht⟩; have HO := Lib.hid (show CloneOf w A.fixed (.returned (.slice (some ⟨g', 0, none⟩) A.fixed.length c')) w1 from ⟨g', c', rfl, ho, hg, ht⟩); clear ho hg ht)
  go_ret
  exact HO.out
end Arn
end Go.Proofs.YtpajafecodkndaaGreat

set_option linter.unusedVariables false
set_option linter.unusedSimpArgs false
namespace Go.Proofs.YtpajafecodkndaaGreat
namespace Arn
open Go.RowKit Hp Go.Maps

/-- What a call of an arena leaves, where its parts may lie elsewhere behind it. -/
def LeftM (b : Nat) (M : Mem) (A' : Ar) (w w' : World) : Prop := ∃ M', ArAt w' b M' A' ∧ Frm.Turn (M.foot b) w w' ∧ ∀ k, k ∈ M'.foot b → k ∈ M.foot b ∨ w.heap.size ≤ k
theorem Left.m {b : Nat} {M : Mem} {A' : Ar} {w w' : World} (h : Left b M A' w w') : LeftM b M A' w w' := ⟨M, h.at_, h.turn, fun _ hk => Or.inl hk⟩

theorem set_mid {α : Type} (l : List α) (k : Nat) (y : α) {i : Nat} {z : α} (hk : k ≤ l.length) (h : (l.take k ++ y :: l.drop k)[i]? = some z) : (i < k ∧ l[i]? = some z) ∨ (i = k ∧ z = y) ∨ (k < i ∧ l[i - 1]? = some z) := by
  rw [List.getElem?_append] at h
  have hl : (l.take k).length = k := by simp; omega
  rw [hl] at h
  split at h
  · rename_i hi
    rw [List.getElem?_take_of_lt hi] at h
    exact Or.inl ⟨hi, h⟩
  · rename_i hi
    right
    cases hd : i - k with
    | zero =>
      rw [hd] at h; simp at h
      exact Or.inl ⟨by omega, h.symm⟩
    | succ d =>
      rw [hd] at h; simp at h
      right
      refine ⟨by omega, ?_⟩
      rw [show i - 1 = k + d from by omega]; exact h
theorem hasH_mid (l : List Blk) (k : Nat) (x : Blk) (h : Int) : hasH (l.take k ++ x :: l.drop k) h = (hasH l h || x.h == h) := by
  rw [Bool.eq_iff_iff, Bool.or_eq_true, hasH_iff, hasH_iff, beq_iff_eq]
  constructor
  · rintro ⟨y, hy, e⟩
    rcases mem_mid.1 hy with rfl | hy
    · exact Or.inr e
    · exact Or.inl ⟨y, hy, e⟩
  · rintro (⟨y, hy, e⟩ | e)
    · exact ⟨y, mem_mid.2 (Or.inr hy), e⟩
    · exact ⟨x, mem_mid.2 (Or.inl rfl), e⟩
theorem hasN_mid (l : List Blk) (k : Nat) (x : Blk) (h : Int) : hasN (l.take k ++ x :: l.drop k) h = (hasN l h || x.h % 65536 == h) := by
  rw [Bool.eq_iff_iff, Bool.or_eq_true, hasN_iff, hasN_iff, beq_iff_eq]
  constructor
  · rintro ⟨y, hy, e⟩
    rcases mem_mid.1 hy with rfl | hy
    · exact Or.inr e
    · exact Or.inl ⟨y, hy, e⟩
  · rintro (⟨y, hy, e⟩ | e)
    · exact ⟨y, mem_mid.2 (Or.inr hy), e⟩
    · exact ⟨x, mem_mid.2 (Or.inl rfl), e⟩
theorem nodup_mid {α : Type} {l : List α} {k : Nat} {x : α} (h : l.Nodup) (hx : x ∉ l) : (l.take k ++ x :: l.drop k).Nodup := by
  have hp : (l.take k ++ x :: l.drop k).Perm (x :: l) := by
    have := (List.perm_middle (a := x) (l₁ := l.take k) (l₂ := l.drop k))
    rwa [List.take_append_drop] at this
  exact hp.nodup_iff.2 (List.nodup_cons.2 ⟨hx, h⟩)
theorem lay_full {A : Ar} (hok : A.Ok) {S : St} (hm : S.most = 65535) (hu : ∀ k : Int, S.used k = hasN A.L k) (hf : ∀ k : Int, 1 ≤ k → k ≤ S.most → S.used k = true) : False := by
  have h1 : A.L.length ≤ 60000 := by
    have h1 := length_le_used (fun x hx => (hok.len x hx).1)
    have h2 := hok.top
    have h3 := hok.peak
    have h4 := hok.cap
    omega
  have hl := lead_le A.L 0
  have hn := free_not hok.rise (fun x hx => (hok.hnd x hx).1)
  have := hf ((lead 0 A.L : Int) + 1) (by omega) (by rw [hm]; omega)
  rw [hu, hn] at this
  cases this
theorem lay_number {A : Ar} (hok : A.Ok) {S S' : St} {x : Nat} (hu : ∀ k : Int, S.used k = hasN A.L k) (ht : Took S x S') : x = lead 0 A.L + 1 := by
  have hn := free_not hok.rise (fun x hx => (hok.hnd x hx).1)
  have h1 := ht.free
  rw [hu] at h1
  rcases Nat.lt_trichotomy x (lead 0 A.L + 1) with e | e | e
  · have := free_least (l := A.L) (k := (x : Int)) (by have := ht.lo; omega) (by omega)
    rw [h1] at this; cases this
  · exact e
  · have := ht.least ((lead 0 A.L : Int) + 1) (by omega) (by omega)
    rw [hu, hn] at this; cases this

def layH (A : Ar) : Int := ((A.births : Int) + 1) * 65536 + ((lead 0 A.L : Int) + 1)
theorem lay_eq {A : Ar} {ws : List Int} (h1 : 1 ≤ ws.length) (h2 : ws.length ≤ 2048) (h3 : used A.L + ws.length ≤ A.cap) :
    A.lay ws = ({ A with births := A.births + 1, L := A.L.take (lead 0 A.L) ++ ⟨layH A, ws⟩ :: A.L.drop (lead 0 A.L), peak := max A.peak (used A.L + ws.length), t := { A.t with lays := A.t.lays + 1 } }, layH A, 0) := by
  unfold Ar.lay layH
  rw [if_neg (by omega), if_neg (by omega)]
theorem lay_new {A : Ar} (hok : A.Ok) : hasH A.L (layH A) = false := by
  rw [hasH_false]
  intro x hx e
  have hl := lead_le A.L 0
  have h1 := length_le_used (fun x hx => (hok.len x hx).1)
  have h2 := hok.top
  have h3 := hok.peak
  have h4 := hok.cap
  have h5 := (hok.hnd x hx).2.2
  unfold layH at e
  rw [e] at h5
  omega

set_option maxHeartbeats 1000000 in
theorem lay_done {w w1 w3 w4 : World} {b g' c' n x : Nat} {M : Mem} {A : Ar} {S S' : St} {Fs' : List Nat} {D : DataW Unit} {ws : List Int}
    (h : ArAt w b M A) (hm : S.most = 65535) (hu : ∀ k : Int, S.used k = hasN A.L k) (hD : MapAt w M.m M.B A.L D)
    (ht : Took S x S') (hs1 : Lst.StockAt w1 M.sb Fs' S') (T01 : Frm.Turn M.Fs w w1) (hf1 : ∀ k, k ∈ Fs' → k ∈ M.Fs ∨ w.heap.size ≤ k)
    (ho3 : w3.ownsRow 0 31 1 (.slice (some ⟨g', 0, none⟩) ws.length c') ws.length (u64s ws)) (hg3 : w1.heap.size ≤ g') (T13 : Frm.Turn [] (w1.setCell ⟨b, 1, none⟩ (.int .u64 ((A.births : Int) + 1))) w3)
    (ho4 : w4.ownsMap Tryz.prog 31 hdr M.m n (D.put (.int .u64 (layH A)) (hdat g' ws.length c'))) (G34 : w3.grownBy w4 (some M.m))
    (h1 : 1 ≤ ws.length) (h2 : ws.length ≤ 2048) (h3 : used A.L + ws.length ≤ A.cap) (hb : A.births < 268435455) (hw : ∀ v, v ∈ ws → W64 v) :
    LeftM b M (A.lay ws).1 w (((w4.setCell ⟨b, 13, none⟩ (.int .i64 ((used A.L : Int) + (ws.length : Int)))).setCell ⟨b, 14, none⟩ (.int .i64 ((max A.peak (used A.L + ws.length) : Nat) : Int))).setCell ⟨b, 16, none⟩ (.int .i64 ((A.t.lays : Int) + 1))) := by
  have hok := lay_ok h.ok h1 h2 h3 hb hw
  rw [lay_eq h1 h2 h3] at hok ⊢
  have hx := lay_number h.ok hu ht
  have hfree := lay_new h.ok
  obtain ⟨o1, o2, o3⟩ := h.b_out
  have hap := h.apart
  simp only [List.nodup_cons, List.mem_cons] at hap
  have hlt := h.lt
  have s1 := T01.size
  have T13' : Frm.Turn [b] w1 w3 := (((Frm.Turn.refl [b] w1).setCell (p := ⟨b, 1, none⟩) (Or.inl (by simp)) _)).trans T13 (by simp)
  have T14 : Frm.Turn [b, M.m] w1 w4 := (T13'.mono (by simp)).trans (Frm.Turn.of_grown G34) (fun k hk => by simp at hk; simp [hk])
  have T4' : Frm.Turn [b] w4 (((w4.setCell ⟨b, 13, none⟩ (.int .i64 ((used A.L : Int) + (ws.length : Int)))).setCell ⟨b, 14, none⟩ (.int .i64 ((max A.peak (used A.L + ws.length) : Nat) : Int))).setCell ⟨b, 16, none⟩ (.int .i64 ((A.t.lays : Int) + 1))) :=
    (((Frm.Turn.refl [b] w4).setCell (Or.inl (by simp)) _).setCell (Or.inl (by simp)) _).setCell (Or.inl (by simp)) _
  have T1' : Frm.Turn [b, M.m] w1 _ := T14.trans T4' (fun k hk => by simp at hk; simp [hk])
  have hgw : w.heap.size ≤ g' := Nat.le_trans s1 hg3
  have hgfoot : g' ∉ M.foot b := fun hc => by have := hlt _ hc; omega
  have hmFs : M.m ∉ M.Fs := fun hc => h.side _ hc (by simp)
  have hwm : M.m < w.heap.size := hlt _ (by simp [Mem.foot])
  have hFs' : ∀ k, k ∈ Fs' → k ≠ b ∧ k ≠ M.m ∧ k ∉ M.B.map Row.g ∧ k ≠ g' := fun k hk => by
    have hk1 := hs1.lt k hk
    rcases hf1 k hk with h' | h'
    · have := h.side k h'
      simp only [List.mem_cons, not_or] at this
      exact ⟨this.1, this.2.1, this.2.2, by omega⟩
    · have q := h.b_lt
      refine ⟨by omega, by omega, fun hc => ?_, by omega⟩
      have := hlt k (by simp only [Mem.foot, List.mem_cons, List.mem_append]; exact Or.inr (Or.inr (Or.inr hc)))
      omega
  refine ⟨⟨M.m, M.sb, Fs', M.B.take (lead 0 A.L) ++ ⟨layH A, g', c'⟩ :: M.B.drop (lead 0 A.L)⟩, ⟨hok, ?_, ⟨S', hs1.turn T1' (fun k hk => by have := hFs' k hk; simp; exact ⟨this.1, this.2.1⟩), by rw [ht.most, hm], fun k => ?_⟩, ⟨_, Lst.own_tight (Lst.own_turn ho4 T4' (by simp; exact fun e => o1 e.symm)), ?_, fun k => ?_, fun i r y hr hy z => ?_⟩,
    ⟨?_, fun i r y hr hy => ?_⟩, ?_, fun k hk => ?_⟩, ?_, fun k hk => ?_⟩
  · -- the block
    have e1 : w1.heap[b]? = some (.cells (A.cells M).toArray 128) := T01.keep h.body o2
    have e2 := Frm.heap_set w1 b 1 _ _ _ (.int .u64 ((A.births : Int) + 1)) e1
    have e3 := T13.keep e2 (by simp)
    have e4 := (Frm.Turn.of_grown G34).keep e3 (by simp; exact o1)
    have e5 := Frm.heap_set w4 b 13 _ _ _ (.int .i64 ((used A.L : Int) + (ws.length : Int))) e4
    have e6 := Frm.heap_set _ b 14 _ _ _ (.int .i64 ((max A.peak (used A.L + ws.length) : Nat) : Int)) e5
    have e7 := Frm.heap_set _ b 16 _ _ _ (.int .i64 ((A.t.lays : Int) + 1)) e6
    rw [e7]
    obtain ⟨f0, f1, f2, f3, f4, f5, f6, f7, f8, e⟩ := nine_of h.ok.nine
    simp [Ar.cells, u64s, e, used_mid]
  · -- the stock
    rw [ht.used, hu, hasN_mid]
    have hl := lead_le A.L 0
    have q1 := length_le_used (fun x hx => (h.ok.len x hx).1)
    have q2 := h.ok.top
    have q3 := h.ok.peak
    have q4 := h.ok.cap
    have : (layH A) % 65536 = (x : Int) := by unfold layH; omega
    show _ = (_ || layH A % 65536 == k)
    rw [this]
    congr 1
    rw [Bool.eq_iff_iff]; simp; omega
  · -- how many
    have hs := size_put (k := .int .u64 (layH A)) (hD.own.tidy keyU) (hdat g' ws.length c')
    rw [hs, hD.has, hfree]
    have hl := lead_le A.L 0
    simp [hD.size]; omega
  · -- which
    rw [hasH_mid]
    show _ = (hasH A.L k || layH A == k)
    by_cases e : k = layH A
    · subst e
      rw [has_put_same hD.own.isMap (k := .int .u64 (layH A)) trivial]; simp
    · rw [has_put_other (by simpa using e), hD.has]
      have : (layH A == k) = false := by simpa using fun e' => e e'.symm
      rw [this, Bool.or_false]
  · -- where
    have hl := lead_le A.L 0
    rcases set_mid M.B _ _ (by rw [h.rows.1]; exact hl) hr with ⟨i1, hr⟩ | ⟨i1, rfl⟩ | ⟨i1, hr⟩
    · rcases set_mid A.L _ _ hl hy with ⟨i2, hy⟩ | ⟨i2, rfl⟩ | ⟨i2, hy⟩
      · have hR := (h.rows.2 i r y hr hy).h
        have hne : r.h ≠ layH A := fun e => by rw [hasH_false] at hfree; exact hfree y (List.mem_of_getElem? hy) (by rw [← hR, e])
        rw [atKey_put_other (by simpa using hne)]
        exact hD.at_ i r y hr hy z
      · omega
      · omega
    · rcases set_mid A.L _ _ hl hy with ⟨i2, hy⟩ | ⟨i2, rfl⟩ | ⟨i2, hy⟩
      · omega
      · exact atKey_put_same hD.own.isMap (k := .int .u64 (layH A)) trivial _ _
      · omega
    · rcases set_mid A.L _ _ hl hy with ⟨i2, hy⟩ | ⟨i2, rfl⟩ | ⟨i2, hy⟩
      · omega
      · omega
      · have hR := (h.rows.2 _ r y hr hy).h
        have hne : r.h ≠ layH A := fun e => by rw [hasH_false] at hfree; exact hfree y (List.mem_of_getElem? hy) (by rw [← hR, e])
        rw [atKey_put_other (by simpa using hne)]
        exact hD.at_ _ r y hr hy z
  · have := h.rows.1
    simp; omega
  · -- the rows
    have hl := lead_le A.L 0
    have old : ∀ (j : Nat) (r : Row) (y : Blk), M.B[j]? = some r → A.L[j]? = some y → RowOk (((w4.setCell ⟨b, 13, none⟩ (.int .i64 ((used A.L : Int) + (ws.length : Int)))).setCell ⟨b, 14, none⟩ (.int .i64 ((max A.peak (used A.L + ws.length) : Nat) : Int))).setCell ⟨b, 16, none⟩ (.int .i64 ((A.t.lays : Int) + 1))) r y := fun j r y hr hy => by
      have hgm := g_mem hr
      refine ((h.rows.2 j r y hr hy).turn T01 (fun hc => h.side _ hc (by simp [hgm]))).turn T1' ?_
      simp only [List.mem_cons, List.not_mem_nil, or_false, not_or]
      exact ⟨fun e => by rw [e] at hgm; exact o3 hgm, fun e => by rw [e] at hgm; exact hap.2.1 hgm⟩
    rcases set_mid M.B _ _ (by rw [h.rows.1]; exact hl) hr with ⟨i1, hr⟩ | ⟨i1, rfl⟩ | ⟨i1, hr⟩
    · rcases set_mid A.L _ _ hl hy with ⟨i2, hy⟩ | ⟨i2, rfl⟩ | ⟨i2, hy⟩
      · exact old i r y hr hy
      · omega
      · omega
    · rcases set_mid A.L _ _ hl hy with ⟨i2, hy⟩ | ⟨i2, rfl⟩ | ⟨i2, hy⟩
      · omega
      · refine ⟨rfl, Frm.owns_turn (Frm.owns_turn ho3 (Frm.Turn.of_grown G34) (fun k hk => ?_)) T4' (fun k hk => ?_)⟩
        · simp [Value.ownBlock] at hk; subst hk; simp; intro e; subst e; omega
        · simp [Value.ownBlock] at hk; subst hk; simp; intro e; subst e; have := h.b_lt; omega
      · omega
    · rcases set_mid A.L _ _ hl hy with ⟨i2, hy⟩ | ⟨i2, rfl⟩ | ⟨i2, hy⟩
      · omega
      · omega
      · exact old _ r y hr hy
  · -- apart
    have hnm : (M.B.take (lead 0 A.L) ++ ⟨layH A, g', c'⟩ :: M.B.drop (lead 0 A.L)).map Row.g = (M.B.map Row.g).take (lead 0 A.L) ++ g' :: (M.B.map Row.g).drop (lead 0 A.L) := by simp
    rw [hnm]
    have hg'B : g' ∉ M.B.map Row.g := fun hc => hgfoot (by simp only [Mem.foot, List.mem_cons, List.mem_append]; exact Or.inr (Or.inr (Or.inr hc)))
    have hb' := h.b_lt
    have mem : ∀ k, k ∈ (M.B.map Row.g).take (lead 0 A.L) ++ g' :: (M.B.map Row.g).drop (lead 0 A.L) → k = g' ∨ k ∈ M.B.map Row.g := fun k hk => by
      rw [List.mem_append, List.mem_cons] at hk
      rcases hk with hk | hk | hk
      · exact Or.inr (List.mem_of_mem_take hk)
      · exact Or.inl hk
      · exact Or.inr (List.mem_of_mem_drop hk)
    refine List.nodup_cons.2 ⟨fun hc => ?_, List.nodup_cons.2 ⟨fun hc => ?_, nodup_mid hap.2.2 hg'B⟩⟩
    · rcases List.mem_cons.1 hc with e | hc
      · exact o1 e
      · rcases mem _ hc with e | hc
        · omega
        · exact o3 hc
    · rcases mem _ hc with e | hc
      · change M.m = g' at e; omega
      · exact hap.2.1 hc
  · -- side
    have := hFs' k hk
    have hnm : (M.B.take (lead 0 A.L) ++ ⟨layH A, g', c'⟩ :: M.B.drop (lead 0 A.L)).map Row.g = (M.B.map Row.g).take (lead 0 A.L) ++ g' :: (M.B.map Row.g).drop (lead 0 A.L) := by simp
    simp only [hnm, List.mem_cons, List.mem_append, not_or]
    exact ⟨this.1, this.2.1, fun hc => this.2.2.1 (List.mem_of_mem_take hc), this.2.2.2, fun hc => this.2.2.1 (List.mem_of_mem_drop hc)⟩
  · refine (T01.mono (fun k hk => by simp [Mem.foot, hk])).trans T1' (fun k hk => ?_)
    simp at hk; rcases hk with rfl | rfl <;> simp [Mem.foot]
  · simp only [Mem.foot, List.mem_cons, List.mem_append, List.map_append, List.map_cons] at hk ⊢
    rcases hk with rfl | rfl | hk | hk | rfl | hk
    · simp
    · simp
    · rcases hf1 k hk with h' | h'
      · left; simp [h']
      · right; exact h'
    · left; right; right; right
      rw [List.map_take] at hk
      exact List.mem_of_mem_take hk
    · right; exact hgw
    · left; right; right; right
      rw [List.map_drop] at hk
      exact List.mem_of_mem_drop hk
structure LayCut (w1 W0 w3 w4 : World) (M : Mem) (D : DataW Unit) (A : Ar) (ws : List Int) (g' c' : Nat) : Prop where
  own3 : w3.ownsRow 0 31 1 (.slice (some ⟨g', 0, none⟩) ws.length c') ws.length (u64s ws)
  new : W0.drew.heap.size ≤ g'
  turn : Frm.Turn [] W0 w3
  own4 : w4.ownsMap Tryz.prog 31 hdr M.m (Maps.size D + 1) (D.put (.int .u64 (layH A)) (hdat g' ws.length c'))
  grown : w3.grownBy w4 (some M.m)
theorem lay_max (p u n : Nat) : Value.int .i64 (if (p : Int) < (u : Int) + (n : Int) then (u : Int) + (n : Int) else (p : Int)) = .int .i64 ((max p (u + n) : Nat) : Int) := by congr 1; split <;> omega
theorem lay_cell {w w1 w3 w4 : World} {b i : Nat} {M : Mem} {A : Ar} {v u : Value} (h : ArAt w b M A) (T01 : Frm.Turn M.Fs w w1) (T13 : Frm.Turn [] (w1.setCell ⟨b, 1, none⟩ u) w3) (G34 : w3.grownBy w4 (some M.m)) (hi : i ≠ 1)
    (hc : w.cell? ⟨b, i, none⟩ = some v) : w4.cell? ⟨b, i, none⟩ = some v ∧ w4.frozen? ⟨b, i, none⟩ = false := by
  obtain ⟨o1, o2, o3⟩ := h.b_out
  have e1 : w1.cell? ⟨b, i, none⟩ = some v := T01.cell hc o2
  have e2 : (w1.setCell ⟨b, 1, none⟩ u).cell? ⟨b, i, none⟩ = some v := by rw [World.cell?_setCell_other _ _ _ _ (by simp [Ne.symm hi])]; exact e1
  have e3 : w3.cell? ⟨b, i, none⟩ = some v := T13.cell e2 (by simp)
  have T34 := Frm.Turn.of_grown G34
  have e4 : w4.cell? ⟨b, i, none⟩ = some v := T34.cell e3 (by simp; exact o1)
  refine ⟨e4, ?_⟩
  have f1 : w1.frozen? ⟨b, i, none⟩ = false := (T01.frozen (a := ⟨b, i, none⟩) h.b_lt o2).trans (h.thaw i)
  have hb1 := World.block_lt_of_cell? _ _ e2
  have hb3 := World.block_lt_of_cell? _ _ e3
  rw [T34.frozen (a := ⟨b, i, none⟩) hb3 (by simp; exact o1), T13.frozen (a := ⟨b, i, none⟩) hb1 (by simp), World.frozen?_setCell]
  exact f1
attribute [local go_sem ↓] Go.wp_at_zero Go.wp_at_succ

theorem lay_nil (v : Value) (w : World) : Calls Tryz.prog 10 #[.pointer none, v] w fun e w' => e = .returned (.tuple #[.int .u64 0, .int .i64 1]) ∧ w = w' := by
  go_enter Tryz.func10, Tryz.ntmps10
  go_wp2
  go_ret2
  exact ⟨rfl, rfl⟩
theorem lay_arg (b : Nat) (ao : Option Addr) (n c : Nat) (w : World) (h : n < 1 ∨ 2048 < n) : Calls Tryz.prog 10 #[.pointer (some ⟨b, 0, none⟩), .slice ao n c] w fun e w' => e = .returned (.tuple #[.int .u64 0, .int .i64 2]) ∧ w = w' := by
  rcases h with h | h
  · have h0 : decide ((n : Int) < 1) = true := by simp; omega
    go_enter Tryz.func10, Tryz.ntmps10
    go_wp2
    go_ret2
    exact ⟨rfl, rfl⟩
  · have h0 : decide ((n : Int) < 1) = false := by simp; omega
    have h1 : decide (2048 < (n : Int)) = true := by simp; omega
    go_enter Tryz.func10, Tryz.ntmps10
    go_wp2
    go_ret2
    exact ⟨rfl, rfl⟩
theorem lay_room {w : World} {b : Nat} {M : Mem} {A : Ar} (h : ArAt w b M A) (ao : Option Addr) (n c : Nat) (h1 : 1 ≤ n) (h2 : n ≤ 2048) (h3 : A.cap < used A.L + n) : Calls Tryz.prog 10 #[.pointer (some ⟨b, 0, none⟩), .slice ao n c] w fun e w' => e = .returned (.tuple #[.int .u64 0, .int .i64 20]) ∧ Frm.Turn [] w w' := by
  have h0 : decide ((n : Int) < 1) = false := by simp; omega
  have h1 : decide (2048 < (n : Int)) = false := by simp; omega
  have hc0 := h.cells.c0
  have hc13 := h.cells.c13
  have hu : (used A.L : Int) ≤ 60000 := by have := h.ok.top; have := h.ok.peak; have := h.ok.cap; omega
  have hu0 : (0 : Int) ≤ (used A.L : Int) := by omega
  have h4 : decide ((A.cap : Int) < (used A.L : Int) + (n : Int)) = true := by simp; omega
  clear h h3
  go_enter Tryz.func10, Tryz.ntmps10
  go_wp2
  go_quiet (fail)
  go_wp2
  go_ret2
  exact ⟨rfl, (Frm.Turn.refl [] w).drewN _⟩

set_option maxRecDepth 100000 in
set_option maxHeartbeats 4000000 in
theorem lay_yes {w : World} {b : Nat} {M : Mem} {A : Ar} (h : ArAt w b M A) (hl : A.Low lim) (a : Addr) (c : Nat) (ws : List Int) (hws : ∀ j u, (u64s ws)[j]? = some u → w.cell? (a.add j) = some u) (ha : a.block ∉ M.foot b)
    (h1 : 1 ≤ ws.length) (h2 : ws.length ≤ 2048) (h3 : used A.L + ws.length ≤ A.cap) (hb : A.births < 268435455) (hw : ∀ v, v ∈ ws → W64 v) :
    Calls Tryz.prog 10 #[.pointer (some ⟨b, 0, none⟩), .slice (some a) ws.length c] w fun e w' => e = .returned (.tuple #[.int .u64 (layH A), .int .i64 0]) ∧ LeftM b M (A.lay ws).1 w w' := by
  obtain ⟨S, hS, hm, hu⟩ := h.stock
  obtain ⟨D, hD⟩ := h.map
  have hc0 := h.cells.c0
  have hc1 := h.cells.c1
  have hc12 := h.cells.c12
  have hc13 := h.cells.c13
  have hu6 : (used A.L : Int) ≤ 60000 := by have := h.ok.top; have := h.ok.peak; have := h.ok.cap; omega
  have hu0 : (0 : Int) ≤ (used A.L : Int) := by omega
  have hlr : (A.t.lays : Int) ≤ 1000000000000 := by have := hl.lays; unfold lim at this; omega
  have hlr0 : (0 : Int) ≤ (A.t.lays : Int) := by omega
  have hpk : (A.peak : Int) ≤ 60000 := by have := h.ok.peak; have := h.ok.cap; omega
  have hpk0 : (0 : Int) ≤ (A.peak : Int) := by omega
  have hb0 : (0 : Int) ≤ (A.births : Int) := by omega
  have hb1 : decide (268435455 ≤ (A.births : Int)) = false := by simp; omega
  have hb2 : (A.births : Int) < 268435455 := by omega
  have HW := Lib.hid (show ∀ W F, Frm.Turn F w W → (∀ k, k ∈ F → k ∈ M.foot b) → ∀ W', Frm.Turn [] W W' → Calls Tryz.prog 63 #[.slice (some a) ws.length c] W' (CloneOf W' ws) from fun W F hT hF W' hT' =>
    uclone_some a c ws W' (fun j u hu => hT'.cell (hT.cell (hws j u hu) (fun hk => ha (by have hbk : (a.add j).block = a.block := by unfold Addr.add; split <;> rfl
                                                                                          rw [← hbk]; exact hF _ hk))) (by simp)) (by omega))
  have HD := Lib.hid hD
  have HS := Lib.hid hS
  have HM := Lib.hid hm
  have HU := Lib.hid hu
  have H := Lib.hid h
  have HH := Lib.hid (show 1 ≤ ws.length ∧ ws.length ≤ 2048 ∧ used A.L + ws.length ≤ A.cap ∧ A.births < 268435455 ∧ ∀ v, v ∈ ws → W64 v from ⟨h1, h2, h3, hb, hw⟩)
  have hn0 : decide ((ws.length : Int) < 1) = false := by simp; omega
  have hn1 : decide (2048 < (ws.length : Int)) = false := by simp; omega
  have hn4 : decide ((A.cap : Int) < (used A.L : Int) + (ws.length : Int)) = false := by simp; omega
  have hn5 : (ws.length : Int) ≤ 2048 := by omega
  have hn6 : (1 : Int) ≤ (ws.length : Int) := by omega
  clear h hS hm hu hD hws ha h1 h2 h3 hb hw hl
  generalize hN : ws.length = N at hn0 hn1 hn4 hn5 hn6 HW HH ⊢
  have HN := Lib.hid hN
  clear hN
  go_enter Tryz.func10, Tryz.ntmps10
  go_wp2
  go_quiet (fail)
  go_wp2_with fail
  refine (Lst.take_any M.sb M.Fs S _ (HS.out.turn ((Frm.Turn.refl [] w).drewN _) (by simp))).mono ?_
  rintro e w1 (⟨x, S', Fs', rfl, ht, hs1, T01, hf1⟩ | ⟨rfl, _, hf, _⟩)
  · have hx1 : (1 : Int) ≤ (x : Int) := by have := ht.lo; omega
    have hx2 : (x : Int) ≤ 65535 := by have := ht.hi; have := HM.out; omega
    have hcs := (H.out.step ((Frm.Turn.refl [] w).drewN nq)).cells
    have hbf := H.out.b_out.2.1
    have k1 := T01.cell hcs.c1 hbf
    have k11 := T01.cell hcs.c11 hbf
    have kf : ∀ o, w1.frozen? ⟨b, o, none⟩ = false := fun o => (T01.frozen (a := ⟨b, o, none⟩) H.out.b_lt hbf).trans (H.out.thaw o)
    have kf1 := kf 1
    have HP := Lib.hid (show _ ∧ _ ∧ _ ∧ _ from ⟨ht, hs1, T01, hf1⟩)
    have HKF := Lib.hid kf
    have HCS := Lib.hid hcs
    have HBF := Lib.hid hbf
    clear ht hs1 hf1 hcs hbf kf hc0 hc1 hc12 hc13 T01
    go_upto_region 14 with (go_at_call 62; (with_reducible refine (handle_yes _ _ _ (by omega) (by omega) (by omega) (by omega)).mono ?_); rintro e w2 ⟨rfl, rfl⟩)
    have hxx := lay_number H.out.ok HU.out HP.out.1
    have hkh : ((A.births : Int) + 1) * 65536 + (x : Int) = layH A := by unfold layH; omega
    rw [hkh]
    have T0 : Frm.Turn (M.foot b) w (w1.setCell ⟨b, 1, none⟩ (.int .u64 ((A.births : Int) + 1))) :=
      ((((Frm.Turn.refl [] w).drewN nq).mono (by simp)).trans (HP.out.2.2.1.mono (fun k hk => by simp [Mem.foot, hk])) (fun k hk => Or.inl hk)).setCell (Or.inl (foot_b M b)) _
    have HC0 := Lib.hid (show ∀ W', Frm.Turn [] (w1.setCell ⟨b, 1, none⟩ (.int .u64 ((A.births : Int) + 1))) W' → Calls Tryz.prog 63 #[.slice (some a) N c] W' fun e w'' => ∃ g' c', e = .returned (.slice (some ⟨g', 0, none⟩) N c') ∧ Hid (w''.ownsRow 0 31 1 (.slice (some ⟨g', 0, none⟩) ws.length c') ws.length (u64s ws)) ∧ Hid (W'.heap.size ≤ g') ∧ Hid (Frm.Turn [] W' w'') from fun W' hW' =>
      (HW.out _ _ T0 (fun k hk => hk) W' hW').mono fun e w'' hc => by
        obtain ⟨g', c', he, q1, q2, q3⟩ := hc
        rw [HN.out] at he
        exact ⟨g', c', he, Lib.hid q1, Lib.hid q2, Lib.hid q3⟩)
    have HMP := Lib.hid (show ∀ W, Frm.Turn [] (w1.setCell ⟨b, 1, none⟩ (.int .u64 ((A.births : Int) + 1))) W → W.ownsMap Tryz.prog 31 hdr M.m (Maps.size D) D from fun W hT =>
      Lst.own_turn (Lst.own_turn (Lst.own_turn HD.out.own ((Frm.Turn.refl [] w).drewN nq) (by simp)) ((HP.out.2.2.1.mono (G := b :: M.Fs) (fun k hk => by simp [hk])).setCell (p := ⟨b, 1, none⟩) (Or.inl (by simp)) (.int .u64 ((A.births : Int) + 1))) (by
        have q1 := H.out.b_out.1
        have q2 := fun hc => H.out.side M.m hc (by simp)
        simp; exact ⟨fun e => q1 e.symm, q2⟩)) hT (by simp))
    have hwf : W64 (layH A) := by unfold layH; exact ⟨by omega, by omega⟩
    have HKEY := Lib.hid (key_u64 (layH A) hwf)
    have HSZ := Lib.hid (show Maps.size D < maxLen by
      have q1 := length_le_used (fun x hx => (H.out.ok.len x hx).1)
      have q2 := HD.out.size
      unfold maxLen; omega)
    have k11' : (w1.setCell ⟨b, 1, none⟩ (.int .u64 ((A.births : Int) + 1))).cell? ⟨b, 11, none⟩ = some (.map (some M.m)) := by rw [World.cell?_setCell_other _ _ _ _ (by simp)]; exact k11
    have HK11 := Lib.hid (show ∀ W, Frm.Turn [] (w1.setCell ⟨b, 1, none⟩ (.int .u64 ((A.births : Int) + 1))) W → W.cell? ⟨b, 11, none⟩ = some (.map (some M.m)) from fun W hT => hT.cell k11' (by simp))
    have HUP := Lib.hid (show ∀ W, Frm.Turn [] (w1.setCell ⟨b, 1, none⟩ (.int .u64 ((A.births : Int) + 1))) W → ∀ g' c', ∃ w4, (Instr.mapUpdate 125 (.map (some M.m)) (.int .u64 (layH A)) (.slice (some ⟨g', 0, none⟩) N c')).run Tryz.prog W = .ok () w4 ∧
        Hid (w4.ownsMap Tryz.prog 31 hdr M.m (Maps.size D + 1) (D.put (.int .u64 (layH A)) (hdat g' ws.length c'))) ∧ Hid (W.grownBy w4 (some M.m)) from fun W hT g' c' => by
      obtain ⟨w4, q1, q2, q3⟩ := (HMP.out _ hT).update keyU mapU HSZ.out HKEY.out (hdr_mk g' ws.length c')
      rw [HN.out] at q1
      exact ⟨w4, q1, Lib.hid q2, Lib.hid q3⟩)
    obtain ⟨W0, hW0⟩ : ∃ W0, W0 = w1.setCell ⟨b, 1, none⟩ (.int .u64 ((A.births : Int) + 1)) := ⟨_, rfl⟩
    rw [← hW0] at k11' T0 HC0 HUP HK11 ⊢
    have HW0 := Lib.hid hW0
    have HT0 := Lib.hid T0
    clear hW0 T0 k1 k11 kf1 hxx hkh hwf HMP
    go_cut [75] (fun s75 W => ∃ g' c' w3, s75 = .slice (some ⟨g', 0, none⟩) N c' ∧ LayCut w1 W0 w3 W M D A ws g' c')
    case first =>
      have k11d : W0.drew.cell? ⟨b, 11, none⟩ = some (.map (some M.m)) := k11'
      go_region_with ((go_at_call 63; (with_reducible refine (HC0.out _ ((Frm.Turn.refl [] W0).drew)).mono ?_); rintro e w3 ⟨g', c', rfl, HO3, HG3, HT3'⟩; have HT3 := Lib.hid (((Frm.Turn.refl [] W0).drew).trans HT3'.out (by simp)); have k3 := HK11.out w3 HT3.out; obtain ⟨w4, hrun4, HO4, HG4⟩ := HUP.out w3 HT3.out g' c'))
      all_goals go_wp2_with fail
      all_goals go_meet
      all_goals exact ⟨g', c', w3, rfl, ⟨HO3.out, HG3.out, HT3.out, HO4.out, HG4.out⟩⟩
    case rest =>
      obtain ⟨g', c', w3, rfl, hL⟩ := hcut
      have hLt := hL.turn
      rw [HW0.out] at hLt
      have HD' := Lib.hid (H.out.step ((Frm.Turn.refl [] w).drewN nq))
      obtain ⟨c13, f13⟩ := lay_cell HD'.out HP.out.2.2.1 hLt hL.grown (by omega) HCS.out.c13
      obtain ⟨c14, f14⟩ := lay_cell HD'.out HP.out.2.2.1 hLt hL.grown (by omega) HCS.out.c14
      obtain ⟨c16, f16⟩ := lay_cell HD'.out HP.out.2.2.1 hLt hL.grown (by omega) HCS.out.c16
      have HL := Lib.hid hL
      have HLT := Lib.hid hLt
      clear hL hLt k11'
      go_upto_region 16 with fail
      go_cut [96] (fun s96 W => s96 = .pointer (some ⟨b, 14, none⟩) ∧ W = ((wc.setCell ⟨b, 13, none⟩ (.int .i64 ((used A.L : Int) + (N : Int)))).setCell ⟨b, 14, none⟩ (.int .i64 ((max A.peak (used A.L + N) : Nat) : Int))).drew)
      case first =>
        rename_i J K' hRJ hMK
        have hmax := Lib.hid (lay_max A.peak (used A.L) N)
        have HMK := Lib.hid hMK
        have HRJ := Lib.hid hRJ
        clear hMK hRJ
        go_region
        all_goals rw [hmax.out]
        all_goals dsimp only [Exit.then]
        all_goals refine HMK.out _ _ (Met.intro (HRJ.out _ _ ?_))
        all_goals (repeat apply Exists.intro)
        all_goals exact ⟨⟨rfl, rfl⟩, rfl⟩
      case rest =>
        obtain ⟨rfl, rfl⟩ := hcut
        go_wp2
        go_ret2
        refine ⟨rfl, ?_⟩
        have hT1 := HP.out.2.2.1
        have hnew : w1.heap.size ≤ g' := by
          have q := HL.out.new
          rw [HW0.out] at q
          simpa using q
        have hres := lay_done HD'.out HM.out HU.out (HD.out.turn ((Frm.Turn.refl [] w).drewN nq) (by simp)) HP.out.1 HP.out.2.1 hT1 HP.out.2.2.2 HL.out.own3 hnew HLT.out HL.out.own4 HL.out.grown (by rw [HN.out]; exact HH.out.1) (by rw [HN.out]; exact HH.out.2.1) (by rw [HN.out]; exact HH.out.2.2.1) HH.out.2.2.2.1 HH.out.2.2.2.2
        rw [HN.out] at hres
        obtain ⟨M', q1, q2, q3⟩ := hres
        exact ⟨M', q1.step ((Frm.Turn.refl [] _).drew), ((((Frm.Turn.refl [] w).drewN nq).mono (by simp)).trans q2 (fun k hk => Or.inl hk)).drew, q3⟩
  · exact (lay_full H.out.ok HM.out HU.out hf).elim
end Arn
end Go.Proofs.YtpajafecodkndaaGreat

set_option linter.unusedVariables false
set_option linter.unusedSimpArgs false
namespace Go.Proofs.YtpajafecodkndaaGreat
namespace Arn
open Go.RowKit Hp Go.Maps

theorem filter_erase {α : Type} {p : α → Bool} : ∀ (l : List α) (j : Nat), (∀ (i : Nat) (x : α), l[i]? = some x → (p x = true ↔ i ≠ j)) → l.filter p = l.eraseIdx j := by
  intro l
  induction l with
  | nil => intro j _; simp
  | cons y t ih =>
    intro j h
    cases j with
    | zero =>
      have h0 : p y = false := by
        have := h 0 y (by simp)
        cases hp : p y with
        | false => rfl
        | true => exact absurd rfl (this.1 hp)
      have ht : t.filter p = t := List.filter_eq_self.2 (fun x hx => by
        obtain ⟨i, hi⟩ := List.getElem?_of_mem hx
        exact (h (i + 1) x (by simpa using hi)).2 (by omega))
      simp [List.filter_cons, h0, ht]
    | succ j =>
      have h0 : p y = true := (h 0 y (by simp)).2 (by omega)
      have := ih j (fun i x hx => by
        have := h (i + 1) x (by simpa using hx)
        rw [this]; omega)
      simp [List.filter_cons, h0, this]
theorem erase_map {α β : Type} (f : α → β) : ∀ (l : List α) (j : Nat), (l.eraseIdx j).map f = (l.map f).eraseIdx j := by
  intro l
  induction l with
  | nil => intro j; simp
  | cons y t ih =>
    intro j
    cases j with
    | zero => simp
    | succ j => simp [ih j]
theorem used_erase : ∀ (l : List Blk) (j : Nat) (x : Blk), l[j]? = some x → used l = used (l.eraseIdx j) + x.ws.length := by
  intro l
  induction l with
  | nil => intro j x h; simp at h
  | cons y t ih =>
    intro j x h
    cases j with
    | zero => simp at h; subst h; simp [used]; omega
    | succ j =>
      simp at h
      have := ih j x h
      simp [used]; omega
theorem hasH_drop (l : List Blk) (h k : Int) : hasH (drop l h) k = (hasH l k && decide (k ≠ h)) := by
  rw [Bool.eq_iff_iff, Bool.and_eq_true, hasH_iff, hasH_iff, decide_eq_true_eq]
  simp only [drop, List.mem_filter]
  constructor
  · rintro ⟨x, ⟨hx, hn⟩, e⟩
    exact ⟨⟨x, hx, e⟩, fun e' => by simp at hn; exact hn (by rw [e, e'])⟩
  · rintro ⟨⟨x, hx, e⟩, hn⟩
    exact ⟨x, ⟨hx, by simp; rw [e]; exact hn⟩, e⟩
theorem hasN_drop {l : List Blk} (hr : l.Pairwise fun x y => x.h % 65536 < y.h % 65536) {x : Blk} (hx : x ∈ l) (k : Int) : hasN (drop l x.h) k = (hasN l k && decide (k ≠ x.h % 65536)) := by
  rw [Bool.eq_iff_iff, Bool.and_eq_true, hasN_iff, hasN_iff, decide_eq_true_eq]
  simp only [drop, List.mem_filter]
  constructor
  · rintro ⟨y, ⟨hy, hn⟩, e⟩
    refine ⟨⟨y, hy, e⟩, fun e' => ?_⟩
    have := num_inj hr hy hx (by rw [e, e'])
    subst this
    simp at hn
  · rintro ⟨⟨y, hy, e⟩, hn⟩
    exact ⟨y, ⟨hy, by simp; intro e'; exact hn (by rw [← e, e'])⟩, e⟩
/-- Where the block of a handle stands, in both lists. -/
theorem ArAt.erase {w : World} {b : Nat} {M : Mem} {A : Ar} (h : ArAt w b M A) {j : Nat} {r : Row} {x : Blk} (hr : M.B[j]? = some r) (hx : A.L[j]? = some x) : drop A.L x.h = A.L.eraseIdx j ∧ M.B.filter (fun q => !(q.h == x.h)) = M.B.eraseIdx j := by
  have key : ∀ (i : Nat) (y : Blk), A.L[i]? = some y → ((!(y.h == x.h)) = true ↔ i ≠ j) := fun i y hy => by
    simp
    constructor
    · intro hn e; subst e; rw [hx] at hy; cases hy; exact hn rfl
    · intro hn e
      have : y = x := h.ok.h_inj (List.mem_of_getElem? hy) (List.mem_of_getElem? hx) e
      subst this
      rcases Nat.lt_trichotomy i j with e1 | e1 | e1
      · have := rise_get h.ok.rise hy hx e1; omega
      · exact hn e1
      · have := rise_get h.ok.rise hx hy e1; omega
  refine ⟨filter_erase _ _ key, filter_erase _ _ fun i q hq => ?_⟩
  obtain ⟨y, hy, hR⟩ := h.row_at hq
  rw [hR.h]
  exact key i y hy
theorem erase_at {α : Type} {l : List α} {i j : Nat} {x : α} (h : (l.eraseIdx j)[i]? = some x) : (i < j ∧ l[i]? = some x) ∨ (j ≤ i ∧ l[i + 1]? = some x) := by
  rw [List.getElem?_eraseIdx] at h
  split at h
  · rename_i hi; exact Or.inl ⟨hi, h⟩
  · rename_i hi; exact Or.inr ⟨by omega, h⟩

set_option maxHeartbeats 1000000 in
theorem free_done {w w1 w2 : World} {b j n : Nat} {M : Mem} {A : Ar} {S S' : St} {Fs' : List Nat} {D : DataW Unit} {r : Row} {x : Blk}
    (h : ArAt w b M A) (hm : S.most = 65535) (hu : ∀ k : Int, S.used k = hasN A.L k) (hD : MapAt w M.m M.B A.L D) (hr : M.B[j]? = some r) (hx : A.L[j]? = some x)
    (ho1 : w1.ownsMap Tryz.prog 31 hdr M.m n (D.del (.int .u64 x.h))) (T01 : Frm.Turn [M.m] w w1)
    (hg : Gave S (x.h % 65536) S') (hs2 : Lst.StockAt w2 M.sb Fs' S') (T12 : Frm.Turn M.Fs w1 w2) (hf2 : ∀ k, k ∈ Fs' → k ∈ M.Fs ∨ w1.heap.size ≤ k) :
    LeftM b M (A.free x.h).1 w ((w2.setCell ⟨b, 13, none⟩ (.int .i64 ((used A.L : Int) - (x.ws.length : Int)))).setCell ⟨b, 17, none⟩ (.int .i64 ((A.t.frees : Int) + 1))) := by
  have hok := free_ok h.ok x.h
  have hhas : hasH A.L x.h = true := hasH_iff.2 ⟨x, List.mem_of_getElem? hx, rfl⟩
  have hfr : A.free x.h = ({ A with L := drop A.L x.h, t := { A.t with frees := A.t.frees + 1 } }, 0) := by unfold Ar.free; rw [if_pos hhas]
  rw [hfr] at hok ⊢
  obtain ⟨o1, o2, o3⟩ := h.b_out
  have hap := h.apart
  simp only [List.nodup_cons, List.mem_cons] at hap
  have hlt := h.lt
  have s1 := T01.size
  have s2 := T12.size
  obtain ⟨eL, eB⟩ := h.erase hr hx
  have hmFs : M.m ∉ M.Fs := fun hc => h.side _ hc (by simp)
  have T3 : Frm.Turn [b] w2 ((w2.setCell ⟨b, 13, none⟩ (.int .i64 ((used A.L : Int) - (x.ws.length : Int)))).setCell ⟨b, 17, none⟩ (.int .i64 ((A.t.frees : Int) + 1))) :=
    ((Frm.Turn.refl [b] w2).setCell (Or.inl (by simp)) _).setCell (Or.inl (by simp)) _
  have hus := used_erase A.L j x hx
  have hsub : (M.B.eraseIdx j).map Row.g = (M.B.map Row.g).eraseIdx j := erase_map _ _ _
  have hmem : ∀ k, k ∈ (M.B.eraseIdx j).map Row.g → k ∈ M.B.map Row.g := fun k hk => by rw [hsub] at hk; exact List.mem_of_mem_eraseIdx hk
  have hFs' : ∀ k, k ∈ Fs' → k ≠ b ∧ k ≠ M.m ∧ k ∉ M.B.map Row.g := fun k hk => by
    rcases hf2 k hk with h' | h'
    · have := h.side k h'
      simp only [List.mem_cons, not_or] at this
      exact this
    · have q := h.b_lt
      have q2 := hlt M.m (by simp [Mem.foot])
      refine ⟨by omega, by omega, fun hc => ?_⟩
      have := hlt k (by simp only [Mem.foot, List.mem_cons, List.mem_append]; exact Or.inr (Or.inr (Or.inr hc)))
      omega
  have TG : Frm.Turn (M.m :: M.Fs) w w2 := (T01.mono (fun k hk => by simp at hk; simp [hk])).trans T12 (fun k hk => by simp [hk])
  refine ⟨⟨M.m, M.sb, Fs', M.B.eraseIdx j⟩, ⟨hok, ?_, ⟨S', hs2.turn T3 (fun k hk => by have := hFs' k hk; simp; exact this.1), by rw [hg.most, hm], fun k => ?_⟩, ⟨_, Lst.own_tight (Lst.own_turn (Lst.own_turn ho1 T12 hmFs) T3 (by simp; exact fun e => o1 e.symm)), ?_, fun k => ?_, fun i q y hq hy z => ?_⟩,
    ⟨?_, fun i q y hq hy => ?_⟩, ?_, fun k hk => ?_⟩, ?_, fun k hk => ?_⟩
  · have e2 := TG.keep h.body (by simp; exact ⟨o1, o2⟩)
    have e5 := Frm.heap_set w2 b 13 _ _ _ (.int .i64 ((used A.L : Int) - (x.ws.length : Int))) e2
    have e7 := Frm.heap_set _ b 17 _ _ _ (.int .i64 ((A.t.frees : Int) + 1)) e5
    rw [e7]
    obtain ⟨f0, f1, f2, f3, f4, f5, f6, f7, f8, e⟩ := nine_of h.ok.nine
    have eu : ((used A.L : Int) - (x.ws.length : Int)) = ((used (A.L.eraseIdx j) : Nat) : Int) := by omega
    simp [Ar.cells, u64s, e, eL, eu]
  · rw [hg.used, hu, hasN_drop h.ok.rise (List.mem_of_getElem? hx)]
  · have hs := size_del (k := .int .u64 x.h) (hD.own.tidy keyU)
    rw [hD.has, hhas] at hs
    simp at hs
    have hj : j < A.L.length := (List.getElem?_eq_some_iff.1 hx).1
    rw [eL, List.length_eraseIdx, if_pos hj]
    have := hD.size
    omega
  · rw [hasH_drop]
    by_cases e : k = x.h
    · subst e; rw [has_del_same]; simp
    · rw [has_del_other (by simpa using e), hD.has]; simp [e]
  · rw [eL] at hy
    have hne : q.h ≠ x.h := fun e => by
      rcases erase_at hq with ⟨i1, hq⟩ | ⟨i1, hq⟩ <;> rcases erase_at hy with ⟨i2, hy⟩ | ⟨i2, hy⟩
      · have := (h.rows.2 _ q y hq hy).h
        have := h.ok.h_inj (List.mem_of_getElem? hy) (List.mem_of_getElem? hx) (by omega)
        subst this
        have := rise_get h.ok.rise hy hx i1; omega
      · omega
      · omega
      · have := (h.rows.2 _ q y hq hy).h
        have := h.ok.h_inj (List.mem_of_getElem? hy) (List.mem_of_getElem? hx) (by omega)
        subst this
        have := rise_get h.ok.rise hx hy (by omega); omega
    rw [atKey_del_other (by simpa using hne)]
    rcases erase_at hq with ⟨i1, hq⟩ | ⟨i1, hq⟩ <;> rcases erase_at hy with ⟨i2, hy⟩ | ⟨i2, hy⟩
    · exact hD.at_ _ q y hq hy z
    · omega
    · omega
    · exact hD.at_ _ q y hq hy z
  · have := h.rows.1
    simp only [eL, List.length_eraseIdx, this]
  · rw [eL] at hy
    have old : ∀ (i : Nat) (q : Row) (y : Blk), M.B[i]? = some q → A.L[i]? = some y → RowOk ((w2.setCell ⟨b, 13, none⟩ (.int .i64 ((used A.L : Int) - (x.ws.length : Int)))).setCell ⟨b, 17, none⟩ (.int .i64 ((A.t.frees : Int) + 1))) q y := fun i q y hq hy => by
      have hgm := g_mem hq
      refine ((h.rows.2 i q y hq hy).turn TG ?_).turn T3 ?_
      · simp only [List.mem_cons, not_or]
        exact ⟨fun e => by rw [e] at hgm; exact hap.2.1 hgm, fun hc => h.side _ hc (by simp [hgm])⟩
      · simp; intro e; rw [e] at hgm; exact o3 hgm
    rcases erase_at hq with ⟨i1, hq⟩ | ⟨i1, hq⟩ <;> rcases erase_at hy with ⟨i2, hy⟩ | ⟨i2, hy⟩
    · exact old _ q y hq hy
    · omega
    · omega
    · exact old _ q y hq hy
  · refine List.nodup_cons.2 ⟨fun hc => ?_, List.nodup_cons.2 ⟨fun hc => hap.2.1 (hmem _ hc), ?_⟩⟩
    · rcases List.mem_cons.1 hc with e | hc
      · exact o1 e
      · exact o3 (hmem _ hc)
    · show ((M.B.eraseIdx j).map Row.g).Nodup
      rw [hsub]
      exact hap.2.2.sublist (List.eraseIdx_sublist _ _)
  · have := hFs' k hk
    simp only [List.mem_cons, not_or]
    exact ⟨this.1, this.2.1, fun hc => this.2.2 (hmem _ hc)⟩
  · refine (TG.mono (fun k hk => ?_)).trans T3 (fun k hk => by simp at hk; subst hk; simp [Mem.foot])
    simp only [Mem.foot, List.mem_cons, List.mem_append] at hk ⊢
    rcases hk with rfl | hk
    · simp
    · simp [hk]
  · simp only [Mem.foot, List.mem_cons, List.mem_append] at hk ⊢
    rcases hk with rfl | rfl | hk | hk
    · simp
    · simp
    · rcases hf2 k hk with h' | h'
      · left; simp [h']
      · right; omega
    · left; right; right; right
      exact hmem _ hk

theorem wf_i64_small {k : Int} (h0 : 0 ≤ k) (h1 : k ≤ 65535) : (Lit.int .i64 k).wf = true := by
  simp [Lit.wf, IntKind.min, IntKind.max, IntKind.bits, IntKind.signed]; omega
theorem give_used {w : World} {sb : Nat} {Fs : List Nat} {S : St} (hs : Lst.StockAt w sb Fs S) (k : Int) (hk : (Lit.int .i64 k).wf = true) (hu : S.used k = true) :
    Calls Tryz.prog 192 #[.pointer (some ⟨sb, 0, none⟩), .int .i64 k] w fun e w' => e = .returned (.int .i64 0) ∧ Hid (∃ S' Fs', Gave S k S' ∧ Lst.StockAt w' sb Fs' S' ∧ Frm.Turn Fs w w' ∧ ∀ q, q ∈ Fs' → q ∈ Fs ∨ w.heap.size ≤ q) :=
  (Lst.give_any sb Fs S k w hs hk).mono fun e w' he => by
    rcases he with ⟨S', F', e, hg, hs', hT, hf⟩ | ⟨_, hn, _⟩
    · exact ⟨e, Lib.hid ⟨S', F', hg, hs', hT, hf⟩⟩
    · rw [hu] at hn; cases hn
attribute [local go_sem ↓] Go.wp_at_zero Go.wp_at_succ
theorem free_nil (k : Int) (w : World) : Calls Tryz.prog 180 #[.pointer none, .int .u64 k] w fun e w' => e = .returned (.int .i64 1) ∧ w = w' := by
  go_enter Tryz.func180, Tryz.ntmps180
  go_wp2
  go_ret
  exact ⟨rfl, rfl⟩
set_option maxHeartbeats 1000000 in
theorem free_gone {w : World} {b : Nat} {M : Mem} {A : Ar} (h : ArAt w b M A) (hl : A.Low lim) (k : Int) (hk : W64 k) (hh : hasH A.L k = false) :
    Calls Tryz.prog 180 #[.pointer (some ⟨b, 0, none⟩), .int .u64 k] w fun e w' => e = .returned (.int .i64 23) ∧ Left b M A.miss w w' := by
  have hc := h.cells.c11
  obtain ⟨D, hD⟩ := h.map
  have hlk := hD.look_no hh hk
  have H := Lib.hid h
  have HL := Lib.hid hl
  clear h hD hl hh
  go_enter Tryz.func180, Tryz.ntmps180
  go_wp2_with (go_at_call 113; (with_reducible refine (fault_any H.out HL.out 23).mono ?_); rintro e w1 ⟨rfl, ha, ht⟩; have HA := Lib.hid ha; have HT1 := Lib.hid ht; clear ha ht)
  go_ret
  exact ⟨rfl, HA.out, turn_b HT1.out⟩
set_option maxRecDepth 100000 in
set_option maxHeartbeats 2000000 in
theorem free_live {w : World} {b : Nat} {M : Mem} {A : Ar} (h : ArAt w b M A) (hl : A.Low lim) (k : Int) (hk : W64 k) (hh : hasH A.L k = true) :
    Calls Tryz.prog 180 #[.pointer (some ⟨b, 0, none⟩), .int .u64 k] w fun e w' => e = .returned (.int .i64 0) ∧ LeftM b M (A.free k).1 w w' := by
  obtain ⟨S, hS, hm, hu⟩ := h.stock
  obtain ⟨D, hD⟩ := h.map
  obtain ⟨j, r, x, hr, hx, hrh, hxh, hR⟩ := h.find_row hh
  have hc11 := h.cells.c11
  have hlk := hD.look_yes hr hx (by rw [hrh, hxh]) (by rw [hrh]; exact hk)
  rw [hrh] at hlk
  have hown := hD.own
  have hkey := key_u64 k hk
  have hu6 : (used A.L : Int) ≤ 60000 := by have := h.ok.top; have := h.ok.peak; have := h.ok.cap; omega
  have hu0 : (0 : Int) ≤ (used A.L : Int) := by omega
  have hux : (x.ws.length : Int) ≤ (used A.L : Int) := by have := used_erase A.L j x hx; omega
  have hux0 : (0 : Int) ≤ (x.ws.length : Int) := by omega
  have hlr : (A.t.frees : Int) ≤ 1000000000000 := by have := hl.frees; unfold lim at this; omega
  have hlr0 : (0 : Int) ≤ (A.t.frees : Int) := by omega
  have H := Lib.hid h
  have HD := Lib.hid hD
  have HS := Lib.hid hS
  have HM := Lib.hid hm
  have HU := Lib.hid hu
  have HR := Lib.hid (show M.B[j]? = some r ∧ A.L[j]? = some x ∧ x.h = k from ⟨hr, hx, hxh⟩)
  have HK := Lib.hid hk
  have hkl : k % 65536 ≤ 65535 := by omega
  have hkl0 : 0 ≤ k % 65536 := by omega
  have HUS := Lib.hid (show S.used (k % 65536) = true by rw [hu, hasN_iff]; exact ⟨x, List.mem_of_getElem? hx, by rw [hxh]⟩)
  clear h hS hm hu hD hr hx hrh hxh hR hk hl hh
  generalize hN : x.ws.length = N at hlk hux hux0
  have HN := Lib.hid hN
  clear hN
  go_enter Tryz.func180, Tryz.ntmps180
  go_wp2_with (at_delete; refine wpList_delete_own _ rfl _ _ 125 31 rfl 25 keyU mapU _ M.m _ D rfl hown _ _ rfl hkey ?_; intro w1 hown1 hturn1)
  go_frame
  have hcs := H.out.cells
  have T1 := Frm.Turn.of_grown hturn1.grown
  have hbm : b ∉ (some M.m).toList := by have := H.out.b_out.1; simp; exact this
  have k12 : w1.cell? ⟨b, 12, none⟩ = some (.pointer (some ⟨M.sb, 0, none⟩)) := T1.cell hcs.c12 hbm
  have HS1 := Lib.hid (HS.out.turn T1 (fun k hk => by simp; intro e; subst e; exact H.out.side _ hk (by simp)))
  have HCS := Lib.hid hcs
  have HT1 := Lib.hid T1
  have HBM := Lib.hid hbm
  have HO1 := Lib.hid hown1
  have HW := Lib.hid (wf_i64_small hkl0 hkl)
  have hwr : IntKind.i64.wrap (k % 65536) = k % 65536 := IntWalk.i64_in _ (by omega)
  clear hcs T1 hbm hown1 hturn1 hown hc11 hlk hkey
  go_cut [34] (fun s34 W => ∃ S' Fs', s34 = .int .i64 0 ∧ Gave S (k % 65536) S' ∧ Lst.StockAt W M.sb Fs' S' ∧ Frm.Turn M.Fs w1 W ∧ ∀ k, k ∈ Fs' → k ∈ M.Fs ∨ w1.heap.size ≤ k)
  case first =>
    rename_i J K' hRJ hMK
    have HMK := Lib.hid hMK
    have HRJ := Lib.hid hRJ
    clear hMK hRJ
    go_region_with (first
      | (go_at_call 143; (with_reducible refine (block_any k _ HK.out).mono ?_); rintro e w2 ⟨rfl, rfl⟩)
      | (go_at_call 192; (with_reducible refine (give_used (HS1.out.turn ((Frm.Turn.refl [] w1).drew) (by simp)) (k % 65536) HW.out HUS.out).mono ?_); rintro e w2 ⟨rfl, HGV⟩))
    all_goals dsimp only [Exit.then]
    all_goals refine HMK.out _ _ (Met.intro (HRJ.out _ _ ?_))
    all_goals (repeat apply Exists.intro)
    all_goals refine ⟨?_, rfl⟩
    all_goals (obtain ⟨S', F', hg, hs, hT, hf⟩ := HGV.out; exact ⟨S', F', rfl, hg, hs, (((Frm.Turn.refl [] w1).drew).mono (by simp)).trans hT (fun q hq => Or.inl hq), hf⟩)
  case rest =>
    obtain ⟨S', Fs', rfl, hg, hs2, T12, hf2⟩ := hcut
    have hb2 := H.out.b_out.2.1
    have hbl : b < w1.heap.size := Nat.lt_of_lt_of_le H.out.b_lt HT1.out.size
    have c13 := T12.cell (HT1.out.cell HCS.out.c13 HBM.out) hb2
    have c17 := T12.cell (HT1.out.cell HCS.out.c17 HBM.out) hb2
    have f13 := (T12.frozen (a := ⟨b, 13, none⟩) hbl hb2).trans ((HT1.out.frozen (a := ⟨b, 13, none⟩) H.out.b_lt HBM.out).trans (H.out.thaw 13))
    have f17 := (T12.frozen (a := ⟨b, 17, none⟩) hbl hb2).trans ((HT1.out.frozen (a := ⟨b, 17, none⟩) H.out.b_lt HBM.out).trans (H.out.thaw 17))
    have HG := Lib.hid hg
    have HS2 := Lib.hid hs2
    have HT2 := Lib.hid T12
    have HF2 := Lib.hid hf2
    clear hg hs2 T12 hf2 hb2 k12 hwr
    go_wp2
    go_ret
    refine ⟨rfl, ?_⟩
    obtain ⟨r1, r2, r3⟩ := HR.out
    have ho := HO1.out
    have hgg := HG.out
    rw [← r3] at ho hgg
    have hres := free_done H.out HM.out HU.out HD.out r1 r2 ho (HT1.out.mono (by simp)) hgg HS2.out HT2.out HF2.out
    rw [HN.out, r3] at hres
    exact hres
end Arn
end Go.Proofs.YtpajafecodkndaaGreat

set_option linter.unusedVariables false
set_option linter.unusedSimpArgs false
namespace Go.Proofs.YtpajafecodkndaaGreat
namespace Arn
open Go.RowKit Hp Go.Maps

theorem run_makeMap_n (n : Int) (w : World) : (Instr.makeMap 125 (some (.int .i64 n))).run Tryz.prog w = .ok (.map (some w.heap.size)) (w.alloc (.map #[] 0)) := by
  simp [Instr.makeMap, run_underlying mapU, asInt, asIntOf, go_sem]
/-- On the way: those blocks that have come stand in the new map m', each in a row of its own. -/
structure Cop (w : World) (L : List Blk) (m' : Nat) (left : Lit → Bool) (q : Nat → Row) (D' : DataW Unit) (wr : World) : Prop where
  own : wr.ownsMap Tryz.prog 31 hdr m' (Maps.size D') D'
  has : ∀ k : Int, Maps.has D' (.int .u64 k) = (hasH L k && !left (.int .u64 k))
  at_ : ∀ (i : Nat) (x : Blk), L[i]? = some x → left (.int .u64 x.h) = false → RowOk wr (q i) x ∧ w.heap.size ≤ (q i).g ∧ ∀ z, D'.atKey (.int .u64 x.h) z = hdat (q i).g x.ws.length (q i).c
  apart : ∀ (i j : Nat) (x y : Blk), L[i]? = some x → L[j]? = some y → left (.int .u64 x.h) = false → left (.int .u64 y.h) = false → i ≠ j → (q i).g ≠ (q j).g
  turn : Frm.Turn [] w wr
theorem Cop.turn' {w wr wr' : World} {L : List Blk} {m' : Nat} {left : Lit → Bool} {q : Nat → Row} {D' : DataW Unit} {F : List Nat} (h : Cop w L m' left q D' wr) (ht : Frm.Turn F wr wr') (hm : m' ∉ F) (hq : ∀ (i : Nat) (x : Blk), L[i]? = some x → left (.int .u64 x.h) = false → (q i).g ∉ F) (hw : ∀ k, k ∈ F → w.heap.size ≤ k) : Cop w L m' left q D' wr' :=
  ⟨Lst.own_turn h.own ht hm, h.has, fun i x hx hl => ⟨(h.at_ i x hx hl).1.turn ht (hq i x hx hl), (h.at_ i x hx hl).2⟩, h.apart, h.turn.trans ht (fun k hk => Or.inr (hw k hk))⟩
theorem mem_iff_hasH {L : List Blk} {k : Int} : hasH L k = true ↔ ∃ (i : Nat) (x : Blk), L[i]? = some x ∧ x.h = k := by
  rw [hasH_iff]
  constructor
  · rintro ⟨x, hx, e⟩
    obtain ⟨i, hi⟩ := List.getElem?_of_mem hx
    exact ⟨i, x, hi, e⟩
  · rintro ⟨i, x, hx, e⟩
    exact ⟨x, List.mem_of_getElem? hx, e⟩
def setF (q : Nat → Row) (j : Nat) (r : Row) : Nat → Row := fun i => if i = j then r else q i
/-- One more has come. -/
theorem Cop.step {w wr w3 w4 : World} {L : List Blk} {m' j g' c' : Nat} {left : Lit → Bool} {q : Nat → Row} {D' : DataW Unit} {x : Blk} (h : Cop w L m' left q D' wr) (hi : ∀ a b, a ∈ L → b ∈ L → a.h = b.h → a = b) (hnd : ∀ (i k : Nat) (a b : Blk), L[i]? = some a → L[k]? = some b → a.h = b.h → i = k) (hx : L[j]? = some x)
    (ho : w3.ownsRow 0 31 1 (.slice (some ⟨g', 0, none⟩) x.ws.length c') x.ws.length (u64s x.ws)) (hg : wr.heap.size ≤ g') (T : Frm.Turn [] wr w3) {n : Nat}
    (ho4 : w4.ownsMap Tryz.prog 31 hdr m' n (D'.put (.int .u64 x.h) (hdat g' x.ws.length c'))) (G : w3.grownBy w4 (some m')) (hm : w.heap.size ≤ m') :
    Cop w L m' (fun z => left z && !z.sameKey (.int .u64 x.h)) (setF q j ⟨x.h, g', c'⟩) (D'.put (.int .u64 x.h) (hdat g' x.ws.length c')) w4 := by
  have hT4 := Frm.Turn.of_grown G
  have hml : m' < wr.heap.size := h.own.lt
  have lf : ∀ k : Int, ((left (.int .u64 k) && !(Lit.int .u64 k).sameKey (.int .u64 x.h)) = false) ↔ (left (.int .u64 k) = false ∨ k = x.h) := fun k => by
    by_cases e : k = x.h
    · subst e
      have : (Lit.int .u64 x.h).sameKey (.int .u64 x.h) = true := WideAt.sameKey_self trivial
      simp [this]
    · have : (Lit.int .u64 k).sameKey (.int .u64 x.h) = false := sameKey_ne (by simpa using e)
      simp [this, e]
  have s1 := h.turn.size
  have s3 := T.size
  have old : ∀ (i : Nat) (y : Blk), L[i]? = some y → left (.int .u64 y.h) = false → i ≠ j → RowOk w4 (q i) y ∧ (q i).g ≠ g' := fun i y hy hl hne => by
    have ha := h.at_ i y hy hl
    have hlt := (World.ownsRow.lt ha.1.own (q i).g rfl).2
    refine ⟨(ha.1.turn T (by simp)).turn hT4 ?_, by omega⟩
    simp
    intro e
    obtain ⟨es, clock, hb, _⟩ := h.own
    rcases ha.1.own.2 with ⟨e', _⟩ | ⟨g, cap, cur, e', _, hb', _⟩
    · cases e'
    · cases e'
      rw [e, hb] at hb'; cases hb'
  have new : RowOk w4 ⟨x.h, g', c'⟩ x := ⟨rfl, Frm.owns_turn ho hT4 (fun k hk => by simp [Value.ownBlock] at hk; subst hk; simp; omega)⟩
  refine ⟨Lst.own_tight ho4, fun k => ?_, fun i y hy hl => ?_, fun i k y z hy hz hl hl' hne => ?_, (h.turn.trans T (by simp)).trans hT4 (fun k hk => by simp at hk; subst hk; exact Or.inr hm)⟩
  · by_cases e : k = x.h
    · subst e
      rw [has_put_same h.own.isMap (k := .int .u64 x.h) trivial]
      have h1 : hasH L x.h = true := mem_iff_hasH.2 ⟨j, x, hx, rfl⟩
      have h2 := (lf x.h).2 (Or.inr rfl)
      rw [h1, h2]; rfl
    · rw [has_put_other (by simpa using e), h.has]
      have : (Lit.int .u64 k).sameKey (.int .u64 x.h) = false := sameKey_ne (by simpa using e)
      simp [this]
  · unfold setF
    by_cases e : i = j
    · subst e
      rw [hx] at hy; cases hy
      rw [if_pos rfl]
      exact ⟨new, by show _ ≤ g'; omega, fun z => atKey_put_same h.own.isMap (k := .int .u64 x.h) trivial _ _⟩
    · rw [if_neg e]
      have hne : y.h ≠ x.h := fun e' => e (hnd i j y x hy hx e')
      rcases (lf y.h).1 hl with hl | hl
      · obtain ⟨o1, o2⟩ := old i y hy hl e
        have ha := h.at_ i y hy hl
        refine ⟨o1, ha.2.1, fun z => ?_⟩
        rw [atKey_put_other (by simpa using hne)]
        exact ha.2.2 z
      · exact absurd hl hne
  · unfold setF
    by_cases e : i = j
    · have e' : k ≠ j := fun e' => hne (by rw [e, e'])
      rw [if_pos e, if_neg e']
      rcases (lf z.h).1 hl' with hl' | hl'
      · exact fun e2 => (old k z hz hl' e').2 e2.symm
      · exact absurd (hnd k j z x hz hx hl') e'
    · rw [if_neg e]
      rcases (lf y.h).1 hl with hl | hl
      · by_cases e' : k = j
        · rw [if_pos e']
          exact (old i y hy hl e).2
        · rw [if_neg e']
          rcases (lf z.h).1 hl' with hl' | hl'
          · exact h.apart i k y z hy hz hl hl' hne
          · exact absurd (hnd k j z x hz hx hl') e'
      · exact absurd (hnd i j y x hy hx hl) e
theorem ArAt.inj {w : World} {b : Nat} {M : Mem} {A : Ar} (h : ArAt w b M A) : ∀ (i k : Nat) (x y : Blk), A.L[i]? = some x → A.L[k]? = some y → x.h = y.h → i = k := fun i k x y hx hy e => by
  rcases Nat.lt_trichotomy i k with e1 | e1 | e1
  · have := rise_get h.ok.rise hx hy e1; omega
  · exact e1
  · have := rise_get h.ok.rise hy hx e1; omega

/-- The copies: a map of those blocks, whose rows are new. -/
structure Copied (w : World) (m' : Nat) (B' : List Row) (L : List Blk) (w' : World) : Prop where
  map : ∃ D, MapAt w' m' B' L D
  rows : B'.length = L.length ∧ ∀ (i : Nat) (r : Row) (x : Blk), B'[i]? = some r → L[i]? = some x → RowOk w' r x
  new : ∀ k, k ∈ B'.map Row.g → w.heap.size ≤ k
  newm : w.heap.size ≤ m'
  apart : (m' :: B'.map Row.g).Nodup
  turn : Frm.Turn [] w w'
theorem Copied.of {w wr : World} {L : List Blk} {m' : Nat} {left : Lit → Bool} {q : Nat → Row} {D' : DataW Unit} (h : Cop w L m' left q D' wr) (hl : ∀ k, left k = false) (hm : w.heap.size ≤ m') (hs : Maps.size D' = L.length) : Copied w m' ((List.range L.length).map q) L wr := by
  have get : ∀ (i : Nat) (r : Row), ((List.range L.length).map q)[i]? = some r → i < L.length ∧ r = q i := fun i r hr => by
    rw [List.getElem?_map] at hr
    obtain ⟨a, ha, rfl⟩ := Option.map_eq_some_iff.1 hr
    obtain ⟨hlt, e⟩ := List.getElem?_eq_some_iff.1 ha
    rw [List.getElem_range] at e
    subst e
    exact ⟨by simpa using hlt, rfl⟩
  have mem : ∀ k, k ∈ ((List.range L.length).map q).map Row.g → ∃ i, i < L.length ∧ k = (q i).g := fun k hk => by
    simp at hk
    obtain ⟨a, ha, rfl⟩ := hk
    exact ⟨a, ha, rfl⟩
  refine ⟨⟨D', ⟨h.own, hs, fun k => by rw [h.has, hl]; simp, fun i r x hr hx z => ?_⟩⟩, ⟨by simp, fun i r x hr hx => ?_⟩, fun k hk => ?_, hm, ?_, h.turn⟩
  · obtain ⟨_, rfl⟩ := get i r hr
    have := h.at_ i x hx (hl _)
    rw [this.1.h]; exact this.2.2 z
  · obtain ⟨_, rfl⟩ := get i r hr
    exact (h.at_ i x hx (hl _)).1
  · obtain ⟨i, hi, rfl⟩ := mem k hk
    exact (h.at_ i _ (List.getElem?_eq_getElem hi) (hl _)).2.1
  · refine List.nodup_cons.2 ⟨fun hc => ?_, ?_⟩
    · obtain ⟨i, hi, e⟩ := mem _ hc
      have ha := (h.at_ i _ (List.getElem?_eq_getElem hi) (hl _)).1
      obtain ⟨es, clock, hb, _⟩ := h.own
      rcases ha.own.2 with ⟨e', _⟩ | ⟨g, cap, cur, e', _, hb', _⟩
      · cases e'
      · cases e'
        rw [← e, hb] at hb'; cases hb'
    · rw [List.map_map, List.Nodup, List.pairwise_map]
      refine List.Pairwise.imp_of_mem ?_ (List.nodup_range (n := L.length))
      intro a c ha hc hne
      have ha := List.mem_range.1 ha
      have hc := List.mem_range.1 hc
      exact h.apart a c _ _ (List.getElem?_eq_getElem ha) (List.getElem?_eq_getElem hc) (hl _) (hl _) hne

theorem count_one {x : Blk} {p p' : Blk → Bool} (h0 : p x = false) : ∀ (l : List Blk), l.Pairwise (fun a b => a.h ≠ b.h) → x ∈ l → (∀ y, y ∈ l → p' y = (p y || y.h == x.h)) → l.countP p' = l.countP p + 1 := by
  intro l
  induction l with
  | nil => intro _ hx; simp at hx
  | cons y t ih =>
    intro hnd hx hp
    obtain ⟨n1, n2⟩ := List.pairwise_cons.1 hnd
    rw [List.countP_cons, List.countP_cons]
    rcases List.mem_cons.1 hx with rfl | hx
    · have e1 : p' x = true := by rw [hp x (by simp)]; simp
      have e2 : t.countP p' = t.countP p := List.countP_congr (fun z hz => by
        rw [hp z (by simp [hz])]
        have : (z.h == x.h) = false := by simpa using fun e => n1 z hz e.symm
        rw [this, Bool.or_false])
      rw [e1, e2, h0]; simp
    · have e1 : p' y = p y := by
        rw [hp y (by simp)]
        have : (y.h == x.h) = false := by simpa using n1 x hx
        rw [this, Bool.or_false]
      rw [ih n2 hx (fun z hz => hp z (by simp [hz])), e1]; omega
theorem grown_of {w w' : World} (h : Frm.Turn [] w w') : w.grownBy w' none := ⟨h.os, h.tape, h.output, h.size, fun k hk _ => h.block k hk (by simp)⟩
def CopRel (w : World) (b m' r : Nat) (M : Mem) (L : List Blk) (D : DataW Unit) (wr : World) : Prop :=
  ∃ (left : Lit → Bool) (cnt : Nat) (q : Nat → Row) (D' : DataW Unit), wr.ranges Tryz.prog 31 hdr M.m r (Maps.size D) D left cnt ∧ Cop w L m' left q D' wr ∧ Maps.size D' = L.countP fun y => !left (.int .u64 y.h)

theorem copies_nil (w : World) : Calls Tryz.prog 138 #[.pointer none] w fun e w' => e = .returned (.map none) ∧ w = w' := by
  go_enter Tryz.func138, Tryz.ntmps138
  go_wp2
  go_ret
  exact ⟨rfl, rfl⟩
attribute [local go_sem ↓] Go.wp_at_zero Go.wp_at_succ
set_option maxRecDepth 100000 in
set_option maxHeartbeats 4000000 in
theorem copies_any {w : World} {b : Nat} {M : Mem} {A : Ar} (h : ArAt w b M A) :
    Calls Tryz.prog 138 #[.pointer (some ⟨b, 0, none⟩)] w fun e w' => ∃ m' B', e = .returned (.map (some m')) ∧ Copied w m' B' A.L w' := by
  obtain ⟨D, hD⟩ := h.map
  have hc := h.cells.c11
  have hown := hD.own
  have hmk := run_makeMap_n
  have hbl := h.b_lt
  have H := Lib.hid h
  have HD := Lib.hid hD
  clear h hD
  go_enter Tryz.func138, Tryz.ntmps138
  go_wp2_with (first
    | (at_len; refine wpList_len_own _ rfl _ 125 rfl 31 25 mapU _ M.m _ D rfl hown ?_)
    | (at_range; refine wpList_range_own _ rfl _ 125 rfl 31 25 keyU mapU hdr M.m (Maps.size D) D rfl (hown.alloc _) ?_; intro w0 hrg0 hg0 hs0))
  go_frame
  have hstart : CopRel w b w.heap.size (w.heap.size + 1) M A.L D w0 := by
    rw [World.size_alloc] at hrg0
    refine ⟨_, _, fun _ => ⟨0, 0, 0⟩, .map [], hrg0, ⟨(World.ownsMap_made w Tryz.prog 31 hdr).kept hg0 (by simp), fun k => ?_, fun i x hx hl => ?_, fun i j x y hx hy hl _ _ => ?_, ((Frm.Turn.refl [] w).alloc _).trans (Frm.Turn.of_grown hg0) (by simp)⟩, ?_⟩
    · rw [HD.out.has]; cases hasH A.L k <;> rfl
    · rw [HD.out.has, mem_iff_hasH.2 ⟨i, x, hx, rfl⟩] at hl; cases hl
    · rw [HD.out.has, mem_iff_hasH.2 ⟨i, x, hx, rfl⟩] at hl; cases hl
    · show 0 = _
      symm
      rw [List.countP_eq_zero]
      intro y hy
      rw [HD.out.has, hasH_iff.2 ⟨y, hy, rfl⟩]; simp
  have HST := Lib.hid hstart
  clear hstart hrg0 hg0 hs0 hown hc
  rw [World.size_alloc]
  go_loopw [4] (fun _ wr => CopRel w b w.heap.size (w.heap.size + 1) M A.L D wr) (fun _ wr => wr.rangeLeft M.m (w.heap.size + 1))
  case atStart => exact HST.out
  case round =>
    obtain ⟨left, cnt, q, D', hrg, hC, hsz⟩ := hrel
    have HC := Lib.hid hC
    have HZ := Lib.hid hsz
    have HRG := Lib.hid hrg
    clear hC hsz
    go_wp2_with (at_next; refine wpList_next_ranges _ rfl _ rfl 31 keyU hdr (Value.int .u64) id (fun key kl hk => by obtain ⟨x, rfl, _⟩ := Maps.keyOf_int_inv under_u64 hk; exact ⟨x, rfl⟩) (fun v y hv => ⟨v, rfl⟩) M.m (w.heap.size + 1) (Maps.size D) D left cnt rfl hrg ?_ ?_)
    · intro hc0 hl0
      have hsz := HZ.out
      have hfin := Copied.of HC.out hl0 (Nat.le_refl _) (by rw [hsz]; rw [List.countP_eq_length]; intro y _; rw [hl0]; rfl)
      have HF := Lib.hid hfin
      clear hfin hsz hc0 hl0
      go_wp2
      go_ret
      exact ⟨_, _, rfl, HF.out⟩
    · intro x c kl yd yp w1 cnt1 hkey hlk hv hat hrg1 hlt hg1 hs1 hen
      obtain ⟨x', ex, rfl, hwx⟩ := Maps.keyOf_int_inv under_u64 hkey
      cases ex
      have hx64 := of_wf_u64 hwx
      have hhas : hasH A.L x = true := by rw [← HD.out.has]; exact has_true_of_atKey hat
      obtain ⟨j, r, xb, hr, hxb, hrh, hxh, hR⟩ := H.out.find_row hhas
      have hyd : yd = hdat r.g xb.ws.length r.c := by rw [← hat .nil, ← hrh]; exact HD.out.at_ j r xb hr hxb .nil
      rw [hyd] at hv
      have hcv : c = .slice (some ⟨r.g, 0, none⟩) xb.ws.length r.c := hdr_of hv
      have hrg : r.g < w.heap.size := H.out.lt r.g (by have := g_mem hr; simp only [Mem.foot, List.mem_cons, List.mem_append]; exact Or.inr (Or.inr (Or.inr this)))
      have T1 : Frm.Turn [w.heap.size + 1] wr w1 := by simpa using Frm.Turn.of_grown hg1
      have hR1 := (hR.turn HC.out.turn (by simp)).turn T1 (by simp; omega)
      have hxl := (H.out.ok.len xb (List.mem_of_getElem? hxb)).2
      have HCL := Lib.hid (show ∀ W, Frm.Turn [] w1 W → Calls Tryz.prog 63 #[c] W (CloneOf W xb.ws) from fun W hW => by
        rw [hcv]
        exact uclone_some ⟨r.g, 0, none⟩ r.c xb.ws W (fun j u hu => World.ownsRow.cells (hR1.turn hW (by simp)).own rfl j u hu) (by omega))
      have hC1 := HC.out.turn' T1 (by simp) (fun i y hy hl => by
        have hq := HC.out.at_ i y hy hl
        simp
        intro e
        obtain ⟨es, clock, since, seen, c0, _, _, _, _, hit, _⟩ := HRG.out
        rcases hq.1.own.2 with ⟨e', _⟩ | ⟨g, cap, cur, e', _, hb', _⟩
        · cases e'
        · cases e'
          rw [e, hit] at hb'; cases hb') (fun k hk => by simp at hk; omega)
      have hC1T := hC1.turn
      have HC1 := Lib.hid hC1
      have HRG1 := Lib.hid hrg1
      have HX := Lib.hid (show A.L[j]? = some xb ∧ xb.h = x ∧ left (.int .u64 x) = true from ⟨hxb, hxh, hlk⟩)
      have HCV := Lib.hid hcv
      have HLT := Lib.hid hlt
      have hmsz : Maps.size D' < maxLen := by
        have h1 := HZ.out
        have h2 := List.countP_le_length (p := fun y : Blk => !left (.int .u64 y.h)) (l := A.L)
        have h3 := length_le_used (fun x hx => (H.out.ok.len x hx).1)
        have h4 := H.out.ok.top
        have h5 := H.out.ok.peak
        have h6 := H.out.ok.cap
        unfold maxLen; omega
      have HMS := Lib.hid hmsz
      have HKEY := Lib.hid (key_u64 x hx64)
      clear hmsz hC1 hC1T hrg1 hlk hxb hxh hr hR hR1 hv hyd hat hhas hrh hcv hrg hx64 hwx hkey hlt hg1 hs1 hxl T1
      go_wp2_with (first
        | (go_at_call 63; (with_reducible refine (HCL.out _ (Frm.Turn.refl [] w1)).mono ?_); rintro e w3 ⟨g', c', rfl, ho, hg, hT3⟩; have HO3 := Lib.hid ho; have HG3 := Lib.hid hg; have HT3 := Lib.hid hT3; clear ho hg hT3)
        | (at_mapUpdate; refine wpList_mapUpdate_own _ rfl _ _ _ 125 rfl 31 25 keyU mapU hdr w.heap.size (Maps.size D') D' rfl (Lst.own_turn HC1.out.own HT3.out (by simp)) HMS.out _ _ _ rfl rfl HKEY.out _ [] (hdr_mk g' xb.ws.length c') ?_; intro w4 hown4 hgr4; have HO4 := Lib.hid hown4; have HG4 := Lib.hid hgr4; clear hown4 hgr4))
      go_roundw
      case rel =>
        obtain ⟨q1, q2, q3⟩ := HX.out
        subst q2
        have hinj := H.out.inj
        have hst := Cop.step HC1.out (fun a b ha hb e => H.out.ok.h_inj ha hb e) hinj q1 HO3.out HG3.out HT3.out HO4.out HG4.out (Nat.le_refl _)
        have hne : M.m ≠ w.heap.size := by have := H.out.lt M.m (by simp [Mem.foot]); omega
        have hrg4 := (HRG1.out.kept (grown_of HT3.out) (by simp) (by simp)).kept HG4.out (by simp; exact hne) (by simp)
        (repeat apply Exists.intro)
        refine ⟨?_, rfl⟩
        refine ⟨_, cnt1, _, _, hrg4, hst, ?_⟩
        have hs := size_put (k := .int .u64 xb.h) (HC1.out.own.tidy keyU) (hdat g' xb.ws.length c')
        have hh : Maps.has D' (.int .u64 xb.h) = false := by rw [HC1.out.has, q3]; simp
        rw [hs, hh, HZ.out]
        symm
        refine count_one (x := xb) (by rw [q3]; rfl) A.L ?_ (List.mem_of_getElem? q1) (fun y hy => ?_)
        · exact H.out.ok.rise.imp (fun hab e => by rw [e] at hab; omega)
        · by_cases e : y.h = xb.h
          · have : (Lit.int .u64 y.h).sameKey (.int .u64 xb.h) = true := by rw [e]; exact WideAt.sameKey_self trivial
            rw [this]; simp [e]
          · have : (Lit.int .u64 y.h).sameKey (.int .u64 xb.h) = false := sameKey_ne (by simpa using e)
            rw [this]; simp [e]
      case measure =>
        have hne : M.m ≠ w.heap.size := by have := H.out.lt M.m (by simp [Mem.foot]); omega
        have hrg4 := (HRG1.out.kept (grown_of HT3.out) (by simp) (by simp)).kept HG4.out (by simp; exact hne) (by simp)
        rw [hrg4.left_eq, HRG.out.left_eq]
        exact HLT.out
end Arn
end Go.Proofs.YtpajafecodkndaaGreat
