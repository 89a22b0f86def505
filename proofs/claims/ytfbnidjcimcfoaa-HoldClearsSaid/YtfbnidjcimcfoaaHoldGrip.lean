/- A grip in memory, beside an arena and parts: made, stepped, asked. -/
import Derived.Test.YtfbnidjcimcfoaaHoldKit
set_option linter.unusedVariables false
set_option linter.unusedSimpArgs false
namespace Go.Proofs.Ytfbnidjcimcfoaa
namespace Hld
open Go.RowKit Go.Maps Arn Pac Clm Cnt Sta

variable {w W W' : World} {b k n r : Nat} {A : Ar} {ps : List Part} {C : Gp} {g : Value}
theorem Sta_more {m : Nat} (S : Stash w b A k ps W) (hm : k ≤ m) : Stash w b A m ps W := ⟨S.kin.more hm, S.fra, S.on, S.off, S.self, S.low⟩
def gpL (b : Nat) (g : Value) (C : Gp) : List Value := [g, .pointer (some ⟨b, 0, none⟩), .int .u64 C.seg, .int .i64 C.slot, .int .u64 C.root, .int .i64 C.out]
def nxG (r st : Nat) : Value :=
  if st = 1 then .func (.func 36) #[.pointer (some ⟨r, 0, none⟩)] #[]
  else if st = 2 then .func (.func 53) #[.pointer (some ⟨r, 0, none⟩)] #[]
  else if st = 3 then .func (.func 63) #[.pointer (some ⟨r, 0, none⟩)] #[]
  else .nilFunc
theorem nxG_fn (r st : Nat) : IsFn (nxG r st) := by
  unfold nxG
  repeat' split
  all_goals first | exact isFn_func _ _ _ | exact isFn_nil
def gpB (r b : Nat) (g : Value) (C : Gp) : Part := bkP r (.cells (gpL b g C).toArray 85)
def gpP (r b : Nat) (C : Gp) : Part := gpB r b (nxG r C.st) C
theorem enters_find : Enters Try.prog 36 := enters_of Try.func36 (by kernel_rfl) rfl
theorem enters_hold : Enters Try.prog 53 := enters_of Try.func53 (by kernel_rfl) rfl
theorem enters_check : Enters Try.prog 63 := enters_of Try.func63 (by kernel_rfl) rfl
theorem gp_cells (S : Stash w b A k ps W) (hm : gpB r b g C ∈ ps) : W.cell? ⟨r, 0, none⟩ = some g ∧ W.cell? ⟨r, 1, none⟩ = some (.pointer (some ⟨b, 0, none⟩)) ∧ W.cell? ⟨r, 2, none⟩ = some (.int .u64 C.seg) ∧ W.cell? ⟨r, 3, none⟩ = some (.int .i64 C.slot) ∧ W.cell? ⟨r, 4, none⟩ = some (.int .u64 C.root) ∧ W.cell? ⟨r, 5, none⟩ = some (.int .i64 C.out) :=
  ⟨cell_h S hm rfl, cell_h S hm rfl, cell_h S hm rfl, cell_h S hm rfl, cell_h S hm rfl, cell_h S hm rfl⟩
set_option maxRecDepth 100000 in
theorem gfind_any (S : Stash w b A k (gpB r b g C :: ps) W) (hk : k ≤ 10000000) :
    Calls Try.prog 36 #[.pointer (some ⟨r, 0, none⟩)] W fun e w' => e = .returned (.tuple #[]) ∧ Stash w b (A.read 0 0).1 (k + 1) (gpB r b (nxG r 2) { C with root := (A.read 0 0).2.1 } :: ps) w' := by
  obtain ⟨c0, c1, c2, c3, c4, c5⟩ := gp_cells S (List.mem_cons_self ..)
  have HR := Lib.hid (rootNow_any S hk c1)
  have hmk := hmf
  clear S c0 c1 c2 c3 c4 c5
  generalize (A.read 0 0).1 = A' at HR ⊢
  generalize (A.read 0 0).2.1 = x at HR ⊢
  go_enter Try.func36, Try.ntmps36
  go_wp2_with (first
    | (go_at_call 52; (with_reducible refine (HR.out).mono ?_); rintro e w1 ⟨rfl, hS⟩; obtain ⟨-, -, -, -, d4, -⟩ := gp_cells hS (List.mem_cons_self ..); have e4 := thaw_h (i := 4) hS (List.mem_cons_self ..); have HTO := Lib.hid (to_h (r := r) (x := g) (l := [.pointer (some ⟨b, 0, none⟩), .int .u64 C.seg, .int .i64 C.slot, .int .u64 x, .int .i64 C.out]) (v := .func (.func 53) #[.pointer (some ⟨r, 0, none⟩)] #[]) (poke_h (i := 4) (.int .u64 x) hS) (isFn_func _ _ _)); clear hS)
    | (go_at_call 35; (with_reducible refine (HTO.out).mono ?_); rintro e w2 ⟨rfl, hS⟩; have HS2 := Lib.hid hS; clear hS))
  go_end0
  exact ⟨rfl, HS2.out⟩
set_option maxRecDepth 100000 in
theorem ghold_any (S : Stash w b A k (gpB r b g C :: ps) W) (hk : k ≤ 10000000) (F : C.Fit) :
    Calls Try.prog 53 #[.pointer (some ⟨r, 0, none⟩)] W fun e w' => e = .returned (.tuple #[]) ∧ Stash w b (A.write C.seg (5 * (ofN C.slot : Int) + 3) (C.root / 1048576)).1 (k + 1) (gpB r b (nxG r 3) C :: ps) w' := by
  obtain ⟨c0, c1, c2, c3, c4, c5⟩ := gp_cells S (List.mem_cons_self ..)
  have HT := Lib.hid (fun W => top_any C.root W F.root)
  have h64 : W64 (C.root / 1048576) := by obtain ⟨h1, h2⟩ := F.root; exact ⟨by omega, by omega⟩
  have HW := Lib.hid (fun W' (hT : Frm.Turn [] W W') => hwrite_any (f := 3) (v := C.root / 1048576) (S.still hT) hk (hT.cell c1 (by simp)) (hT.cell c2 (by simp)) (hT.cell c3 (by simp)) F.slot F.seg F.seg64 (.inl rfl) h64)
  have hmk := hmf
  have HD := Lib.hid ((Frm.Turn.refl [] W).drew)
  have HTO : Hid (∀ w1 A' k', Stash w b A' k' (gpB r b g C :: ps) w1 → Calls Try.prog 35 #[.pointer (some ⟨r, 0, none⟩), .func (.func 63) #[.pointer (some ⟨r, 0, none⟩)] #[]] w1 fun e w' => e = .returned (.tuple #[]) ∧ Stash w b A' k' (gpB r b (nxG r 3) C :: ps) w') := Lib.hid (fun w1 A' k' hS => to_h hS (isFn_func _ _ _))
  clear S c0 c1 c2 c3 c5 h64
  generalize (A.write C.seg (5 * (ofN C.slot : Int) + 3) (C.root / 1048576)).1 = A' at HW ⊢
  generalize C.root / 1048576 = x at HT HW
  generalize hrt : C.root = rt at c4 HT
  clear hrt
  go_enter Try.func53, Try.ntmps53
  go_wp2_with fail
  go_region_with (first
    | (go_at_call 62; (with_reducible refine (HT.out _).mono ?_); rintro e w1 ⟨rfl, rfl⟩)
    | (go_at_call 54; (with_reducible refine (HW.out _ HD.out).mono ?_); rintro e w2 ⟨rfl, hS⟩; have HT2 := Lib.hid (HTO.out _ _ _ hS); clear hS))
  all_goals go_wp2_with (go_at_call 35; (with_reducible refine (HT2.out).mono ?_); rintro e w3 ⟨rfl, hS⟩; have HS3 := Lib.hid hS; clear hS)
  all_goals go_end0
  all_goals exact ⟨rfl, HS3.out⟩
set_option maxRecDepth 100000 in
set_option maxHeartbeats 1000000 in
theorem gcheck_any (S : Stash w b A k (gpB r b g C :: ps) W) (hk : k ≤ 10000000) :
    Calls Try.prog 63 #[.pointer (some ⟨r, 0, none⟩)] W fun e w' => e = .returned (.tuple #[]) ∧ Stash w b (A.read 0 0).1 (k + 1) (gpB r b .nilFunc { C with out := if (A.read 0 0).2.1 = C.root then 1 else 2 } :: ps) w' := by
  have hc5 := (gp_cells S (List.mem_cons_self ..)).2.2.2.2.2
  have hf5 := thaw_h (i := 5) S (List.mem_cons_self ..)
  have S1 : Stash w b A k (gpB r b g { C with out := 2 } :: ps) (W.setCell ⟨r, 5, none⟩ (.int .i64 2)) := poke_h (i := 5) (.int .i64 2) S
  obtain ⟨-, c1, -, -, c4, -⟩ := gp_cells S1 (List.mem_cons_self ..)
  have HD := Lib.hid ((Frm.Turn.refl [] (W.setCell ⟨r, 5, none⟩ (.int .i64 2))).drew)
  have HR := Lib.hid (rootNow_any (S1.still HD.out) hk (HD.out.cell c1 (by simp)))
  have HC4 := Lib.hid (HD.out.cell c4 (by simp))
  have HEN : Hid (∀ w1 A' k' C', Stash w b A' k' (gpB r b g C' :: ps) w1 → Calls Try.prog 69 #[.pointer (some ⟨r, 0, none⟩)] w1 fun e w' => e = .returned (.tuple #[]) ∧ Stash w b A' k' (gpB r b .nilFunc C' :: ps) w') := Lib.hid (fun w1 A' k' C' hS => end_h hS)
  have HST : Hid (∀ w1 A' k', Stash w b A' k' (gpB r b g { C with out := 2 } :: ps) w1 → w1.cell? ⟨r, 4, none⟩ = some (.int .u64 C.root) ∧ w1.cell? ⟨r, 5, none⟩ = some (.int .i64 2) ∧ w1.frozen? ⟨r, 5, none⟩ = false ∧ Stash w b A' k' (gpB r b g { C with out := 1 } :: ps) (w1.setCell ⟨r, 5, none⟩ (.int .i64 1))) := Lib.hid (fun w1 A' k' hS => by
    obtain ⟨-, -, -, -, d4, d5⟩ := gp_cells hS (List.mem_cons_self ..)
    exact ⟨d4, d5, thaw_h (i := 5) hS (List.mem_cons_self ..), poke_h (i := 5) (.int .i64 1) hS⟩)
  have hmk := hmf
  clear S S1 c1 c4
  generalize (A.read 0 0).1 = A' at HR ⊢
  generalize (A.read 0 0).2.1 = x at HR ⊢
  have c4 := HC4.out
  by_cases he : x = C.root
  · rw [if_pos he]
    have hb : (x == C.root) = true := by simpa using he
    clear he
    go_enter Try.func63, Try.ntmps63
    go_wp2_with fail
    go_region_with (go_at_call 52; (with_reducible refine (HR.out).mono ?_); rintro e w1 ⟨rfl, hS⟩; obtain ⟨d4, d5, f5, hS1⟩ := HST.out _ _ _ hS; have HE := Lib.hid (HEN.out _ _ _ _ hS1); clear hS hS1)
    all_goals go_wp2_with (go_at_call 69; (with_reducible refine (HE.out).mono ?_); rintro e w3 ⟨rfl, hS⟩; have HS3 := Lib.hid hS; clear hS)
    all_goals go_end0
    all_goals exact ⟨rfl, HS3.out⟩
  · rw [if_neg he]
    have hb : (x == C.root) = false := by simpa using he
    clear he
    go_enter Try.func63, Try.ntmps63
    go_wp2_with fail
    go_region_with (go_at_call 52; (with_reducible refine (HR.out).mono ?_); rintro e w1 ⟨rfl, hS⟩; obtain ⟨d4, -, -, -⟩ := HST.out _ _ _ hS; have HE := Lib.hid (HEN.out _ _ _ _ hS); clear hS)
    all_goals go_wp2_with (go_at_call 69; (with_reducible refine (HE.out).mono ?_); rintro e w3 ⟨rfl, hS⟩; have HS3 := Lib.hid hS; clear hS)
    all_goals go_end0
    all_goals exact ⟨rfl, HS3.out⟩
theorem ggear_any (S : Stash w b A k (gpP r b C :: ps) W) (hk : k ≤ 10000000) (F : C.Fit) :
    Calls Try.prog 38 #[.pointer (some ⟨r, 0, none⟩)] W fun e w' => e = .returned (.tuple #[]) ∧ Stash w b (C.step A).1 (k + 1) (gpP r b (C.step A).2 :: ps) w' := by
  refine gstep_any r (nxG r C.st) W (gp_cells S (List.mem_cons_self ..)).1 ?_
  unfold Gp.step
  split
  · rename_i h
    rw [show nxG r C.st = .func (.func 36) #[.pointer (some ⟨r, 0, none⟩)] #[] by unfold nxG; rw [if_pos h]]
    exact call_fn #[.pointer (some ⟨r, 0, none⟩)] #[] W enters_find (gfind_any S hk)
  split
  · rename_i h0 h
    rw [show nxG r C.st = .func (.func 53) #[.pointer (some ⟨r, 0, none⟩)] #[] by unfold nxG; rw [if_neg h0, if_pos h]]
    exact call_fn #[.pointer (some ⟨r, 0, none⟩)] #[] W enters_hold (ghold_any S hk F)
  split
  · rename_i h0 h1 h
    rw [show nxG r C.st = .func (.func 63) #[.pointer (some ⟨r, 0, none⟩)] #[] by unfold nxG; rw [if_neg h0, if_neg h1, if_pos h]]
    exact call_fn #[.pointer (some ⟨r, 0, none⟩)] #[] W enters_check (gcheck_any S hk)
  · rename_i h0 h1 h2
    rw [show nxG r C.st = .nilFunc by unfold nxG; rw [if_neg h0, if_neg h1, if_neg h2]]
    refine (call_none W).mono ?_
    rintro e w' ⟨he, rfl⟩
    exact ⟨he, Sta_more S (by omega)⟩
theorem gstep_h (S : Stash w b A k (gpP r b C :: ps) W) (hk : k ≤ 10000000) (F : C.Fit) :
    Calls Try.prog 12 #[.pointer (some ⟨r, 0, none⟩)] W fun e w' => e = .returned (.tuple #[]) ∧ Stash w b (C.step A).1 (k + 1) (gpP r b (C.step A).2 :: ps) w' := by
  have H := Lib.hid (ggear_any S hk F)
  generalize (C.step A).1 = A' at H ⊢
  generalize (C.step A).2 = C' at H ⊢
  clear S F
  go_enter Try.func12, Try.ntmps12
  go_wp2_with (go_at_call 38; (with_reducible refine (H.out).mono ?_); rintro e w1 ⟨rfl, ha⟩)
  go_end0
  exact ⟨rfl, ha⟩
theorem groot_h (S : Stash w b A k ps W) (hm : gpB r b g C ∈ ps) : Calls Try.prog 15 #[.pointer (some ⟨r, 0, none⟩)] W fun e w' => e = .returned (.int .u64 C.root) ∧ W = w' := by
  obtain ⟨c0, c1, c2, c3, c4, c5⟩ := gp_cells S hm
  clear S c0 c1 c2 c3 c5
  generalize C.root = x at c4 ⊢
  go_enter Try.func15, Try.ntmps15
  go_wp2
  go_ret
  exact ⟨rfl, rfl⟩
theorem gout_h (S : Stash w b A k ps W) (hm : gpB r b g C ∈ ps) : Calls Try.prog 19 #[.pointer (some ⟨r, 0, none⟩)] W fun e w' => e = .returned (.int .i64 C.out) ∧ W = w' := by
  obtain ⟨c0, c1, c2, c3, c4, c5⟩ := gp_cells S hm
  clear S c0 c1 c2 c3 c4
  generalize C.out = x at c5 ⊢
  go_enter Try.func19, Try.ntmps19
  go_wp2
  go_ret
  exact ⟨rfl, rfl⟩
theorem idle_nxG (r st : Nat) (h : st ≤ 3) : idle (nxG r st) = decide (st = 0) := by
  have : st = 0 ∨ st = 1 ∨ st = 2 ∨ st = 3 := by omega
  rcases this with rfl | rfl | rfl | rfl <;> rfl
theorem gdone_g (S : Stash w b A k ps W) (hm : gpP r b C ∈ ps) (hst : C.st ≤ 3) : Calls Try.prog 25 #[.pointer (some ⟨r, 0, none⟩)] W fun e w' => e = .returned (.bool (decide (C.st = 0))) ∧ W = w' := by
  have h1 := gdone_any r _ W (nxG_fn r C.st) (gp_cells S hm).1
  rw [idle_nxG r _ hst] at h1
  have H := Lib.hid h1
  clear S hm h1
  generalize decide (C.st = 0) = z at H ⊢
  go_enter Try.func25, Try.ntmps25
  go_wp2_with (go_at_call 44; (with_reducible refine (H.out).mono ?_); rintro e w1 ⟨rfl, rfl⟩)
  go_ret
  exact ⟨rfl, rfl⟩
set_option maxRecDepth 100000 in
theorem gnew_h (S : Stash w b A k ps W) (seg : Int) (s : Nat) :
    Calls Try.prog 9 #[.pointer (some ⟨b, 0, none⟩), .agg #[.int .u64 seg, .int .i64 s]] W fun e w' => ∃ r, e = .returned (.pointer (some ⟨r, 0, none⟩)) ∧ Stash w b A k (gpP r b (Gp.new seg s) :: ps) w' := by
  have HA0 := World.alloc_heap_new W (.cells #[.int .u64 seg, .int .i64 s] 36)
  have hT0 := (Frm.Turn.refl [] W).alloc (.cells #[.int .u64 seg, .int .i64 s] 36)
  have S0 := S.still hT0
  have S1 := add_h S0 (.cells (.nilFunc :: [.pointer (some ⟨b, 0, none⟩), .int .u64 seg, .int .i64 s, .int .u64 0, .int .i64 0]).toArray 85) (World.alloc_heap_new _ _)
  rw [World.size_alloc] at S1
  have HTO := Lib.hid (to_h (v := .func (.func 36) #[.pointer (some ⟨W.heap.size + 1, 0, none⟩)] #[]) S1 (isFn_func _ _ _))
  have p0 := (Frm.cell_row _ _ 0 _ _ _ HA0).trans rfl
  have p1 := (Frm.cell_row _ _ 1 _ _ _ HA0).trans rfl
  have hmk := hmf
  clear S S0 S1 HA0 hT0
  go_enter Try.func9, Try.ntmps9
  go_wp2_with (go_at_call 35; (with_reducible refine (HTO.out).mono ?_); rintro e w1 ⟨rfl, hS⟩; have HS1 := Lib.hid hS; clear hS)
  go_ret
  exact ⟨_, rfl, HS1.out⟩
end Hld
end Go.Proofs.Ytfbnidjcimcfoaa
