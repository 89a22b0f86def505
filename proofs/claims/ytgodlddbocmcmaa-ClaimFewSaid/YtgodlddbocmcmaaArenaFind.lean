/- A word of an arena: find; Size, Tally, Words. -/
import Derived.Test.YtgodlddbocmcmaaArenaSmall
import Derived.Deep.QuietTactic
import Derived.BigQuiet
set_option linter.unusedVariables false
set_option linter.unusedSimpArgs false
namespace Go.Proofs.Ytgodlddbocmcmaa
namespace Arn
open Go.RowKit Hp Go.Maps

theorem MapAt.look_yes {w : World} {m : Nat} {B : List Row} {L : List Blk} {D : DataW Unit} (h : MapAt w m B L D) {j : Nat} {r : Row} {x : Blk} (hr : B[j]? = some r) (hx : L[j]? = some x) (he : r.h = x.h) (hw : W64 r.h) :
    (Instr.lookup 53 (.map (some m)) (.int .u64 r.h) true).run Try.prog w = .ok (.tuple #[.slice (some ⟨r.g, 0, none⟩) x.ws.length r.c, .bool true]) w := by
  obtain ⟨v, ps, hrun, hv⟩ := h.own.look_ok keyU mapU (zeroS w) hdr_nil (key_u64 _ hw)
  rw [h.at_ j r x hr hx] at hv
  have hh : Maps.has D (.int .u64 r.h) = true := by rw [h.has, hasH_iff]; exact ⟨x, List.mem_of_getElem? hx, he.symm⟩
  rw [hh, hdr_of hv] at hrun
  exact hrun
theorem MapAt.look_no {w : World} {m : Nat} {B : List Row} {L : List Blk} {D : DataW Unit} (h : MapAt w m B L D) {k : Int} (hk : hasH L k = false) (hw : W64 k) :
    (Instr.lookup 53 (.map (some m)) (.int .u64 k) true).run Try.prog w = .ok (.tuple #[.slice none 0 0, .bool false]) w := by
  obtain ⟨v, ps, hrun, hv⟩ := h.own.look_ok keyU mapU (zeroS w) hdr_nil (key_u64 _ hw)
  have hh : Maps.has D (.int .u64 k) = false := by rw [h.has]; exact hk
  rw [atKey_of_not_has hh] at hv
  rw [hh] at hrun
  rcases hdr_inv hv with ⟨rfl, _⟩ | ⟨_, _, _, _, e⟩
  · exact hrun
  · simp [hdat] at e
theorem ArAt.find_row {w : World} {b : Nat} {M : Mem} {A : Ar} (h : ArAt w b M A) {k : Int} (hk : hasH A.L k = true) : ∃ (j : Nat) (r : Row) (x : Blk), M.B[j]? = some r ∧ A.L[j]? = some x ∧ r.h = k ∧ x.h = k ∧ RowOk w r x := by
  obtain ⟨x, hx, rfl⟩ := hasH_iff.1 hk
  obtain ⟨j, hj⟩ := List.getElem?_of_mem hx
  have hjl : j < M.B.length := by have := (List.getElem?_eq_some_iff.1 hj).1; have := h.rows.1; omega
  have hr := List.getElem?_eq_getElem hjl
  have hR := h.rows.2 j _ x hr hj
  exact ⟨j, _, x, hr, hj, hR.h, rfl, hR⟩

def FindEnd (b : Nat) (M : Mem) (A : Ar) (blk i : Int) (w : World) (e : Ending) (w' : World) : Prop :=
  (A.err blk i = 0 ∧ ∃ p, e = .returned (.tuple #[.pointer (some p), .int .i64 0]) ∧ PtrAt b M blk i p ∧ Frm.Turn [] w w') ∨
  (A.err blk i ≠ 0 ∧ e = .returned (.tuple #[.pointer none, .int .i64 (A.err blk i)]) ∧ ArAt w' b M A.miss ∧ Frm.Turn [b] w w')
theorem find_nil (blk i : Int) (w : World) : Calls Try.prog 22 #[.pointer none, .agg #[.int .u64 blk, .int .i64 i]] w fun e w' => e = .returned (.tuple #[.pointer none, .int .i64 1]) ∧ Frm.Turn [] w w' := by
  go_enter Try.func22, Try.ntmps22
  go_wp2
  go_ret2
  exact ⟨rfl, (Frm.Turn.refl [] w).alloc _⟩

set_option maxHeartbeats 1000000 in
theorem find_fix {w : World} {b : Nat} {M : Mem} {A : Ar} (h : ArAt w b M A) (hl : A.Low lim) (i : Int) (hw : (Lit.int .i64 i).wf = true) :
    Calls Try.prog 22 #[.pointer (some ⟨b, 0, none⟩), .agg #[.int .u64 0, .int .i64 i]] w (FindEnd b M A 0 i w) := by
  have HL := Lib.hid hl
  have hrow : A.row 0 = some A.fixed := by simp [Ar.row]
  have hlen := h.ok.nine
  have H := Lib.hid h
  have HN := Lib.hid hlen
  have HR := Lib.hid hrow
  clear h hrow hlen hl
  have HT : Hid (∀ o, Frm.Turn [] w (w.alloc o)) := Lib.hid fun o => (Frm.Turn.refl [] w).alloc o
  by_cases h0 : i < 0
  · go_enter Try.func22, Try.ntmps22
    go_wp2_with (go_at_call 30; (with_reducible refine (fault_any (H.out.step (HT.out _)) HL.out 24).mono ?_); rintro e w1 ⟨rfl, ha, ht⟩; have HA := Lib.hid ha; have HT1 := Lib.hid ht; clear ha ht)
    go_ret2
    have he : A.err 0 i = 24 := by unfold Ar.err; rw [HR.out]; simp; omega
    exact Or.inr ⟨by rw [he]; decide, by rw [he]; rfl, HA.out, ((HT.out _).mono (by simp)).trans HT1.out (fun k hk => Or.inl hk)⟩
  · have h0' : decide (i < 0) = false := by simpa using h0
    by_cases h9 : i < 9
    · have h9' : decide (9 ≤ i) = false := by simp; omega
      have hi0 : 0 ≤ i := by omega
      go_enter Try.func22, Try.ntmps22
      go_wp2
      go_ret2
      have he : A.err 0 i = 0 := by unfold Ar.err; rw [HR.out]; simp [HN.out]; omega
      exact Or.inl ⟨he, _, rfl, Or.inl ⟨rfl, rfl⟩, HT.out _⟩
    · have h9' : decide (9 ≤ i) = true := by simp; omega
      go_enter Try.func22, Try.ntmps22
      go_wp2_with (go_at_call 30; (with_reducible refine (fault_any (H.out.step (HT.out _)) HL.out 24).mono ?_); rintro e w1 ⟨rfl, ha, ht⟩; have HA := Lib.hid ha; have HT1 := Lib.hid ht; clear ha ht)
      go_ret2
      have he : A.err 0 i = 24 := by unfold Ar.err; rw [HR.out]; simp [HN.out]; omega
      exact Or.inr ⟨by rw [he]; decide, by rw [he]; rfl, HA.out, ((HT.out _).mono (by simp)).trans HT1.out (fun k hk => Or.inl hk)⟩

set_option maxHeartbeats 1000000 in
theorem find_gone {w : World} {b : Nat} {M : Mem} {A : Ar} (h : ArAt w b M A) (hl : A.Low lim) (blk i : Int) (hb : W64 blk) (h0 : blk ≠ 0) (hk : hasH A.L blk = false) :
    Calls Try.prog 22 #[.pointer (some ⟨b, 0, none⟩), .agg #[.int .u64 blk, .int .i64 i]] w (FindEnd b M A blk i w) := by
  have HL := Lib.hid hl
  have he : A.err blk i = 23 := by unfold Ar.err Ar.row; rw [if_neg h0, look_none.2 hk]
  have HE := Lib.hid he
  obtain ⟨D, hD⟩ := h.map
  have HLK : Hid (∀ W, Frm.Turn [] w W → (Instr.lookup 53 (.map (some M.m)) (.int .u64 blk) true).run Try.prog W = .ok (.tuple #[.slice none 0 0, .bool false]) W) := Lib.hid fun W hT => (hD.turn hT (by simp)).look_no hk hb
  have hlk : ∀ nq o, (Instr.lookup 53 (.map (some M.m)) (.int .u64 blk) true).run Try.prog ((w.alloc o).drewN nq) = .ok (.tuple #[.slice none 0 0, .bool false]) ((w.alloc o).drewN nq) := fun nq o => HLK.out _ (((Frm.Turn.refl [] w).alloc o).drewN nq)
  have hc := h.cells.c11
  have hbl := h.b_lt
  have H := Lib.hid h
  clear h hD hl hk he
  have hne : (blk == 0) = false := beq_eq_false_iff_ne.2 h0
  have hne' : (blk != 0) = true := by rw [bne_iff_ne]; exact h0
  clear h0
  have HT : Hid (∀ o, Frm.Turn [] w (w.alloc o)) := Lib.hid fun o => (Frm.Turn.refl [] w).alloc o
  go_enter Try.func22, Try.ntmps22
  go_wp2
  go_quiet (fail)
  go_wp2_with (go_at_call 30; (with_reducible refine (fault_any (H.out.step ((HT.out _).drewN _)) HL.out 23).mono ?_); rintro e w1 ⟨rfl, ha, ht⟩; have HA := Lib.hid ha; have HT1 := Lib.hid ht; clear ha ht)
  go_ret2
  exact Or.inr ⟨by rw [HE.out]; decide, by rw [HE.out]; rfl, HA.out, (((HT.out _).drewN _).mono (by simp)).trans HT1.out (fun k hk => Or.inl hk)⟩

set_option maxHeartbeats 2000000 in
theorem find_live {w : World} {b : Nat} {M : Mem} {A : Ar} (h : ArAt w b M A) (hl : A.Low lim) (blk i : Int) (hw : (Lit.int .i64 i).wf = true) (hb : W64 blk) (h0 : blk ≠ 0) (hk : hasH A.L blk = true) :
    Calls Try.prog 22 #[.pointer (some ⟨b, 0, none⟩), .agg #[.int .u64 blk, .int .i64 i]] w (FindEnd b M A blk i w) := by
  have HL := Lib.hid hl
  obtain ⟨j, r, x, hr, hx, hrh, hxh, hR⟩ := h.find_row hk
  have HROW : Hid (A.row blk = some x.ws) := Lib.hid (by unfold Ar.row; rw [if_neg h0]; exact h.ok.look_some.2 ⟨x, List.mem_of_getElem? hx, hxh, rfl⟩)
  obtain ⟨D, hD⟩ := h.map
  have HLK : Hid (∀ W, Frm.Turn [] w W → (Instr.lookup 53 (.map (some M.m)) (.int .u64 blk) true).run Try.prog W = .ok (.tuple #[.slice (some ⟨r.g, 0, none⟩) x.ws.length r.c, .bool true]) W) := Lib.hid fun W hT => by
    have := (hD.turn hT (by simp)).look_yes hr hx (by rw [hrh, hxh]) (by rw [hrh]; exact hb)
    rw [hrh] at this; exact this
  have hxl := (h.ok.len x (List.mem_of_getElem? hx)).2
  obtain ⟨n, HN⟩ : ∃ n, Hid (n = x.ws.length) := ⟨_, Lib.hid rfl⟩
  rw [← HN.out] at hxl HLK
  have hlk : ∀ nq o, (Instr.lookup 53 (.map (some M.m)) (.int .u64 blk) true).run Try.prog ((w.alloc o).drewN nq) = .ok (.tuple #[.slice (some ⟨r.g, 0, none⟩) n r.c, .bool true]) ((w.alloc o).drewN nq) := fun nq o => HLK.out _ (((Frm.Turn.refl [] w).alloc o).drewN nq)
  have hc := h.cells.c11
  have hbl := h.b_lt
  have H := Lib.hid h
  have HP : Hid (∀ i, PtrAt b M blk i ⟨r.g, i.toNat, none⟩) := Lib.hid fun i => Or.inr ⟨h0, j, r, hr, hrh, rfl⟩
  clear h hD hl hk hr hx hrh hxh hR
  have hne : (blk == 0) = false := beq_eq_false_iff_ne.2 h0
  have hne' : (blk != 0) = true := by rw [bne_iff_ne]; exact h0
  clear h0
  have HT : Hid (∀ o, Frm.Turn [] w (w.alloc o)) := Lib.hid fun o => (Frm.Turn.refl [] w).alloc o
  by_cases h0 : i < 0
  · go_enter Try.func22, Try.ntmps22
    go_wp2
    go_quiet (fail)
    go_wp2_with (go_at_call 30; (with_reducible refine (fault_any (H.out.step ((HT.out _).drewN _)) HL.out 24).mono ?_); rintro e w1 ⟨rfl, ha, ht⟩; have HA := Lib.hid ha; have HT1 := Lib.hid ht; clear ha ht)
    go_ret2
    have he : A.err blk i = 24 := by unfold Ar.err; rw [HROW.out]; simp; omega
    exact Or.inr ⟨by rw [he]; decide, by rw [he]; rfl, HA.out, (((HT.out _).drewN _).mono (by simp)).trans HT1.out (fun k hk => Or.inl hk)⟩
  · have h0' : decide (i < 0) = false := by simpa using h0
    by_cases h9 : i < n
    · have h9' : decide ((n : Int) ≤ i) = false := by simp; omega
      have hi0 : 0 ≤ i := by omega
      go_enter Try.func22, Try.ntmps22
      go_wp2
      go_quiet (fail)
      go_wp2
      go_ret2
      have he : A.err blk i = 0 := by unfold Ar.err; rw [HROW.out]; simp [← HN.out]; omega
      exact Or.inl ⟨he, _, rfl, HP.out i, (HT.out _).drewN _⟩
    · have h9' : decide ((n : Int) ≤ i) = true := by simp; omega
      go_enter Try.func22, Try.ntmps22
      go_wp2
      go_quiet (fail)
      go_wp2_with (go_at_call 30; (with_reducible refine (fault_any (H.out.step ((HT.out _).drewN _)) HL.out 24).mono ?_); rintro e w1 ⟨rfl, ha, ht⟩; have HA := Lib.hid ha; have HT1 := Lib.hid ht; clear ha ht)
      go_ret2
      have he : A.err blk i = 24 := by unfold Ar.err; rw [HROW.out]; simp [← HN.out]; omega
      exact Or.inr ⟨by rw [he]; decide, by rw [he]; rfl, HA.out, (((HT.out _).drewN _).mono (by simp)).trans HT1.out (fun k hk => Or.inl hk)⟩
theorem find_any {w : World} {b : Nat} {M : Mem} {A : Ar} (h : ArAt w b M A) (hl : A.Low lim) (blk i : Int) (hw : (Lit.int .i64 i).wf = true) (hb : W64 blk) :
    Calls Try.prog 22 #[.pointer (some ⟨b, 0, none⟩), .agg #[.int .u64 blk, .int .i64 i]] w (FindEnd b M A blk i w) := by
  by_cases h0 : blk = 0
  · subst h0; exact find_fix h hl i hw
  · cases hk : hasH A.L blk with
    | false => exact find_gone h hl blk i hb h0 hk
    | true => exact find_live h hl blk i hw hb h0 hk
end Arn
end Go.Proofs.Ytgodlddbocmcmaa
