/- A clear in memory, beside an arena and parts: made, stepped, asked. -/
import Derived.Test.YtfbnidjcimcfoaaHoldGrip
set_option linter.unusedVariables false
set_option linter.unusedSimpArgs false
namespace Go.Proofs.Ytfbnidjcimcfoaa
namespace Hld
open Go.RowKit Go.Maps Arn Pac Clm Cnt Sta

variable {w W W' : World} {b k n r : Nat} {A : Ar} {ps : List Part} {C : Cr} {g : Value}
def crL (b : Nat) (g : Value) (C : Cr) : List Value := [g, .pointer (some ⟨b, 0, none⟩), .int .u64 C.seg, .int .i64 C.slot]
def nxC (r st : Nat) : Value :=
  if st = 1 then .func (.func 43) #[.pointer (some ⟨r, 0, none⟩)] #[]
  else if st = 2 then .func (.func 59) #[.pointer (some ⟨r, 0, none⟩)] #[]
  else .nilFunc
theorem nxC_isFn (r st : Nat) : IsFn (nxC r st) := by
  unfold nxC
  repeat' split
  all_goals first | exact isFn_func _ _ _ | exact isFn_nil
def crB (r b : Nat) (g : Value) (C : Cr) : Part := bkP r (.cells (crL b g C).toArray 95)
def crP (r b : Nat) (C : Cr) : Part := crB r b (nxC r C.st) C
theorem enters_clearA : Enters Try.prog 43 := enters_of Try.func43 (by kernel_rfl) rfl
theorem enters_clearB : Enters Try.prog 59 := enters_of Try.func59 (by kernel_rfl) rfl
theorem cr_cells (S : Stash w b A k ps W) (hm : crB r b g C ∈ ps) : W.cell? ⟨r, 0, none⟩ = some g ∧ W.cell? ⟨r, 1, none⟩ = some (.pointer (some ⟨b, 0, none⟩)) ∧ W.cell? ⟨r, 2, none⟩ = some (.int .u64 C.seg) ∧ W.cell? ⟨r, 3, none⟩ = some (.int .i64 C.slot) :=
  ⟨cell_h S hm rfl, cell_h S hm rfl, cell_h S hm rfl, cell_h S hm rfl⟩
set_option maxRecDepth 100000 in
theorem clearA_any (S : Stash w b A k (crB r b g C :: ps) W) (hk : k ≤ 10000000) (F : C.Fit) :
    Calls Try.prog 43 #[.pointer (some ⟨r, 0, none⟩)] W fun e w' => e = .returned (.tuple #[]) ∧ Stash w b (A.write C.seg (5 * (ofN C.slot : Int) + 3) 0).1 (k + 1) (crB r b (nxC r 2) C :: ps) w' := by
  obtain ⟨c0, c1, c2, c3⟩ := cr_cells S (List.mem_cons_self ..)
  have HW := Lib.hid (hwrite_any (f := 3) (v := 0) S hk c1 c2 c3 F.slot F.seg F.seg64 (.inl rfl) w64_zero)
  have hmk := hmf
  have HTO : Hid (∀ w1 A' k', Stash w b A' k' (crB r b g C :: ps) w1 → Calls Try.prog 35 #[.pointer (some ⟨r, 0, none⟩), .func (.func 59) #[.pointer (some ⟨r, 0, none⟩)] #[]] w1 fun e w' => e = .returned (.tuple #[]) ∧ Stash w b A' k' (crB r b (nxC r 2) C :: ps) w') := Lib.hid (fun w1 A' k' hS => to_h hS (isFn_func _ _ _))
  clear S c0 c1 c2 c3
  generalize (A.write C.seg (5 * (ofN C.slot : Int) + 3) 0).1 = A' at HW ⊢
  go_enter Try.func43, Try.ntmps43
  go_wp2_with (first
    | (go_at_call 54; (with_reducible refine (HW.out).mono ?_); rintro e w2 ⟨rfl, hS⟩; have HT2 := Lib.hid (HTO.out _ _ _ hS); clear hS)
    | (go_at_call 35; (with_reducible refine (HT2.out).mono ?_); rintro e w3 ⟨rfl, hS⟩; have HS3 := Lib.hid hS; clear hS))
  go_end0
  exact ⟨rfl, HS3.out⟩
set_option maxRecDepth 100000 in
theorem clearB_any (S : Stash w b A k (crB r b g C :: ps) W) (hk : k ≤ 10000000) (F : C.Fit) :
    Calls Try.prog 59 #[.pointer (some ⟨r, 0, none⟩)] W fun e w' => e = .returned (.tuple #[]) ∧ Stash w b (A.write C.seg (5 * (ofN C.slot : Int) + 4) 0).1 (k + 1) (crB r b .nilFunc C :: ps) w' := by
  obtain ⟨c0, c1, c2, c3⟩ := cr_cells S (List.mem_cons_self ..)
  have HW := Lib.hid (hwrite_any (f := 4) (v := 0) S hk c1 c2 c3 F.slot F.seg F.seg64 (.inr rfl) w64_zero)
  have HTO : Hid (∀ w1 A' k', Stash w b A' k' (crB r b g C :: ps) w1 → Calls Try.prog 69 #[.pointer (some ⟨r, 0, none⟩)] w1 fun e w' => e = .returned (.tuple #[]) ∧ Stash w b A' k' (crB r b .nilFunc C :: ps) w') := Lib.hid (fun w1 A' k' hS => end_h hS)
  clear S c0 c1 c2 c3
  generalize (A.write C.seg (5 * (ofN C.slot : Int) + 4) 0).1 = A' at HW ⊢
  go_enter Try.func59, Try.ntmps59
  go_wp2_with (first
    | (go_at_call 54; (with_reducible refine (HW.out).mono ?_); rintro e w2 ⟨rfl, hS⟩; have HT2 := Lib.hid (HTO.out _ _ _ hS); clear hS)
    | (go_at_call 69; (with_reducible refine (HT2.out).mono ?_); rintro e w3 ⟨rfl, hS⟩; have HS3 := Lib.hid hS; clear hS))
  go_end0
  exact ⟨rfl, HS3.out⟩
theorem cgear_any (S : Stash w b A k (crP r b C :: ps) W) (hk : k ≤ 10000000) (F : C.Fit) :
    Calls Try.prog 38 #[.pointer (some ⟨r, 0, none⟩)] W fun e w' => e = .returned (.tuple #[]) ∧ Stash w b (C.step A).1 (k + 1) (crP r b (C.step A).2 :: ps) w' := by
  refine gstep_any r (nxC r C.st) W (cr_cells S (List.mem_cons_self ..)).1 ?_
  unfold Cr.step
  split
  · rename_i h
    rw [show nxC r C.st = .func (.func 43) #[.pointer (some ⟨r, 0, none⟩)] #[] by unfold nxC; rw [if_pos h]]
    exact call_fn #[.pointer (some ⟨r, 0, none⟩)] #[] W enters_clearA (clearA_any S hk F)
  split
  · rename_i h0 h
    rw [show nxC r C.st = .func (.func 59) #[.pointer (some ⟨r, 0, none⟩)] #[] by unfold nxC; rw [if_neg h0, if_pos h]]
    exact call_fn #[.pointer (some ⟨r, 0, none⟩)] #[] W enters_clearB (clearB_any S hk F)
  · rename_i h0 h1
    rw [show nxC r C.st = .nilFunc by unfold nxC; rw [if_neg h0, if_neg h1]]
    refine (call_none W).mono ?_
    rintro e w' ⟨he, rfl⟩
    exact ⟨he, Sta_more S (by omega)⟩
theorem cstep_h (S : Stash w b A k (crP r b C :: ps) W) (hk : k ≤ 10000000) (F : C.Fit) :
    Calls Try.prog 22 #[.pointer (some ⟨r, 0, none⟩)] W fun e w' => e = .returned (.tuple #[]) ∧ Stash w b (C.step A).1 (k + 1) (crP r b (C.step A).2 :: ps) w' := by
  have H := Lib.hid (cgear_any S hk F)
  generalize (C.step A).1 = A' at H ⊢
  generalize (C.step A).2 = C' at H ⊢
  clear S F
  go_enter Try.func22, Try.ntmps22
  go_wp2_with (go_at_call 38; (with_reducible refine (H.out).mono ?_); rintro e w1 ⟨rfl, ha⟩)
  go_end0
  exact ⟨rfl, ha⟩
theorem idle_nxC (r st : Nat) (h : st ≤ 2) : idle (nxC r st) = decide (st = 0) := by
  have : st = 0 ∨ st = 1 ∨ st = 2 := by omega
  rcases this with rfl | rfl | rfl <;> rfl
theorem cdone_h (S : Stash w b A k ps W) (hm : crP r b C ∈ ps) (hst : C.st ≤ 2) : Calls Try.prog 23 #[.pointer (some ⟨r, 0, none⟩)] W fun e w' => e = .returned (.bool (decide (C.st = 0))) ∧ W = w' := by
  have h1 := gdone_any r _ W (nxC_isFn r C.st) (cr_cells S hm).1
  rw [idle_nxC r _ hst] at h1
  have H := Lib.hid h1
  clear S hm h1
  generalize decide (C.st = 0) = z at H ⊢
  go_enter Try.func23, Try.ntmps23
  go_wp2_with (go_at_call 44; (with_reducible refine (H.out).mono ?_); rintro e w1 ⟨rfl, rfl⟩)
  go_ret
  exact ⟨rfl, rfl⟩
set_option maxRecDepth 100000 in
theorem cnew_h (S : Stash w b A k ps W) (seg : Int) (s : Nat) :
    Calls Try.prog 21 #[.pointer (some ⟨b, 0, none⟩), .agg #[.int .u64 seg, .int .i64 s]] W fun e w' => ∃ r, e = .returned (.pointer (some ⟨r, 0, none⟩)) ∧ Stash w b A k (crP r b ⟨1, seg, s⟩ :: ps) w' := by
  have HA0 := World.alloc_heap_new W (.cells #[.int .u64 seg, .int .i64 s] 36)
  have hT0 := (Frm.Turn.refl [] W).alloc (.cells #[.int .u64 seg, .int .i64 s] 36)
  have S1 := add_h (S.still hT0) (.cells (.nilFunc :: [.pointer (some ⟨b, 0, none⟩), .int .u64 seg, .int .i64 s]).toArray 95) (World.alloc_heap_new _ _)
  rw [World.size_alloc] at S1
  have HTO := Lib.hid (to_h (v := .func (.func 43) #[.pointer (some ⟨W.heap.size + 1, 0, none⟩)] #[]) S1 (isFn_func _ _ _))
  have p0 := (Frm.cell_row _ _ 0 _ _ _ HA0).trans rfl
  have p1 := (Frm.cell_row _ _ 1 _ _ _ HA0).trans rfl
  have hmk := hmf
  clear S S1 HA0 hT0
  go_enter Try.func21, Try.ntmps21
  go_wp2_with (go_at_call 35; (with_reducible refine (HTO.out).mono ?_); rintro e w1 ⟨rfl, hS⟩; have HS1 := Lib.hid hS; clear hS)
  go_ret
  exact ⟨_, rfl, HS1.out⟩
end Hld
end Go.Proofs.Ytfbnidjcimcfoaa
