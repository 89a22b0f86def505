/- A grip in memory, beside an arena and parts: made, stepped, asked. -/
/- A fetch in memory, beside an arena and parts: made, stepped, asked. -/
/- A clear in memory, beside an arena and parts: made, stepped, asked. -/
/- Two lists held against each other; a machine that steps again and again. -/
import Derived.Test.YtpajafecodkndaaGreatHoldKit
import Derived.Deep.CutBlock
import Derived.Deep.AppendSrc
import Derived.Test.YtpajafecodkndaaGreatHoldSegs
import Derived.Deep.QuietTactic
import Derived.BigQuiet
set_option linter.unusedVariables false
set_option linter.unusedSimpArgs false
namespace Go.Proofs.YtpajafecodkndaaGreat
namespace Hld
open Go.RowKit Go.Maps Arn Pac Clm Cnt Sta

variable {w W W' : World} {b k n r : Nat} {A : Ar} {ps : List Part} {C : Gp} {g : Value}
theorem Sta_more {m : Nat} (S : Stash w b A k ps W) (hm : k ≤ m) : Stash w b A m ps W := ⟨S.kin.more hm, S.fra, S.on, S.off, S.self, S.low⟩
def gpL (b : Nat) (g : Value) (C : Gp) : List Value := [g, .pointer (some ⟨b, 0, none⟩), .int .u64 C.seg, .int .i64 C.slot, .int .u64 C.root, .int .i64 C.out]
def nxG (r st : Nat) : Value :=
  if st = 1 then .func (.func 67) #[.pointer (some ⟨r, 0, none⟩)] #[]
  else if st = 2 then .func (.func 109) #[.pointer (some ⟨r, 0, none⟩)] #[]
  else if st = 3 then .func (.func 134) #[.pointer (some ⟨r, 0, none⟩)] #[]
  else .nilFunc
theorem nxG_fn (r st : Nat) : IsFn (nxG r st) := by
  unfold nxG
  repeat' split
  all_goals first | exact isFn_func _ _ _ | exact isFn_nil
def gpB (r b : Nat) (g : Value) (C : Gp) : Part := bkP r (.cells (gpL b g C).toArray 142)
def gpP (r b : Nat) (C : Gp) : Part := gpB r b (nxG r C.st) C
theorem enters_find : Enters Tryz.prog 67 := enters_of Tryz.func67 (by kernel_rfl) rfl
theorem enters_hold : Enters Tryz.prog 109 := enters_of Tryz.func109 (by kernel_rfl) rfl
theorem enters_check : Enters Tryz.prog 134 := enters_of Tryz.func134 (by kernel_rfl) rfl
theorem gp_cells (S : Stash w b A k ps W) (hm : gpB r b g C ∈ ps) : W.cell? ⟨r, 0, none⟩ = some g ∧ W.cell? ⟨r, 1, none⟩ = some (.pointer (some ⟨b, 0, none⟩)) ∧ W.cell? ⟨r, 2, none⟩ = some (.int .u64 C.seg) ∧ W.cell? ⟨r, 3, none⟩ = some (.int .i64 C.slot) ∧ W.cell? ⟨r, 4, none⟩ = some (.int .u64 C.root) ∧ W.cell? ⟨r, 5, none⟩ = some (.int .i64 C.out) :=
  ⟨cell_h S hm rfl, cell_h S hm rfl, cell_h S hm rfl, cell_h S hm rfl, cell_h S hm rfl, cell_h S hm rfl⟩
set_option maxRecDepth 100000 in
theorem gfind_any (S : Stash w b A k (gpB r b g C :: ps) W) (hk : k ≤ 10000000) :
    Calls Tryz.prog 67 #[.pointer (some ⟨r, 0, none⟩)] W fun e w' => e = .returned (.tuple #[]) ∧ Stash w b (A.read 0 0).1 (k + 1) (gpB r b (nxG r 2) { C with root := (A.read 0 0).2.1 } :: ps) w' := by
  obtain ⟨c0, c1, c2, c3, c4, c5⟩ := gp_cells S (List.mem_cons_self ..)
  have HR := Lib.hid (rootNow_any S hk c1)
  have hmk := hmf
  clear S c0 c1 c2 c3 c4 c5
  generalize (A.read 0 0).1 = A' at HR ⊢
  generalize (A.read 0 0).2.1 = x at HR ⊢
  go_enter Tryz.func67, Tryz.ntmps67
  go_wp2_with (first
    | (go_at_call 108; (with_reducible refine (HR.out).mono ?_); rintro e w1 ⟨rfl, hS⟩; obtain ⟨-, -, -, -, d4, -⟩ := gp_cells hS (List.mem_cons_self ..); have e4 := thaw_h (i := 4) hS (List.mem_cons_self ..); have HTO := Lib.hid (to_h (r := r) (x := g) (l := [.pointer (some ⟨b, 0, none⟩), .int .u64 C.seg, .int .i64 C.slot, .int .u64 x, .int .i64 C.out]) (v := .func (.func 109) #[.pointer (some ⟨r, 0, none⟩)] #[]) (poke_h (i := 4) (.int .u64 x) hS) (isFn_func _ _ _)); clear hS)
    | (go_at_call 66; (with_reducible refine (HTO.out).mono ?_); rintro e w2 ⟨rfl, hS⟩; have HS2 := Lib.hid hS; clear hS))
  go_end0
  exact ⟨rfl, HS2.out⟩
set_option maxRecDepth 100000 in
theorem ghold_any (S : Stash w b A k (gpB r b g C :: ps) W) (hk : k ≤ 10000000) (F : C.Fit) :
    Calls Tryz.prog 109 #[.pointer (some ⟨r, 0, none⟩)] W fun e w' => e = .returned (.tuple #[]) ∧ Stash w b (A.write C.seg (5 * (ofN C.slot : Int) + 3) (C.root / 1048576)).1 (k + 1) (gpB r b (nxG r 3) C :: ps) w' := by
  obtain ⟨c0, c1, c2, c3, c4, c5⟩ := gp_cells S (List.mem_cons_self ..)
  have HT := Lib.hid (fun W => top_any C.root W F.root)
  have h64 : W64 (C.root / 1048576) := by obtain ⟨h1, h2⟩ := F.root; exact ⟨by omega, by omega⟩
  have HW := Lib.hid (fun W' (hT : Frm.Turn [] W W') => hwrite_any (f := 3) (v := C.root / 1048576) (S.still hT) hk (hT.cell c1 (by simp)) (hT.cell c2 (by simp)) (hT.cell c3 (by simp)) F.slot F.seg F.seg64 (.inl rfl) h64)
  have hmk := hmf
  have HD := Lib.hid ((Frm.Turn.refl [] W).drew)
  have HTO : Hid (∀ w1 A' k', Stash w b A' k' (gpB r b g C :: ps) w1 → Calls Tryz.prog 66 #[.pointer (some ⟨r, 0, none⟩), .func (.func 134) #[.pointer (some ⟨r, 0, none⟩)] #[]] w1 fun e w' => e = .returned (.tuple #[]) ∧ Stash w b A' k' (gpB r b (nxG r 3) C :: ps) w') := Lib.hid (fun w1 A' k' hS => to_h hS (isFn_func _ _ _))
  clear S c0 c1 c2 c3 c5 h64
  generalize (A.write C.seg (5 * (ofN C.slot : Int) + 3) (C.root / 1048576)).1 = A' at HW ⊢
  generalize C.root / 1048576 = x at HT HW
  generalize hrt : C.root = rt at c4 HT
  clear hrt
  go_enter Tryz.func109, Tryz.ntmps109
  go_wp2_with fail
  go_region_with (first
    | (go_at_call 133; (with_reducible refine (HT.out _).mono ?_); rintro e w1 ⟨rfl, rfl⟩)
    | (go_at_call 110; (with_reducible refine (HW.out _ HD.out).mono ?_); rintro e w2 ⟨rfl, hS⟩; have HT2 := Lib.hid (HTO.out _ _ _ hS); clear hS))
  all_goals go_wp2_with (go_at_call 66; (with_reducible refine (HT2.out).mono ?_); rintro e w3 ⟨rfl, hS⟩; have HS3 := Lib.hid hS; clear hS)
  all_goals go_end0
  all_goals exact ⟨rfl, HS3.out⟩
set_option maxRecDepth 100000 in
set_option maxHeartbeats 1000000 in
theorem gcheck_any (S : Stash w b A k (gpB r b g C :: ps) W) (hk : k ≤ 10000000) :
    Calls Tryz.prog 134 #[.pointer (some ⟨r, 0, none⟩)] W fun e w' => e = .returned (.tuple #[]) ∧ Stash w b (A.read 0 0).1 (k + 1) (gpB r b .nilFunc { C with out := if (A.read 0 0).2.1 = C.root then 1 else 2 } :: ps) w' := by
  have hc5 := (gp_cells S (List.mem_cons_self ..)).2.2.2.2.2
  have hf5 := thaw_h (i := 5) S (List.mem_cons_self ..)
  have S1 : Stash w b A k (gpB r b g { C with out := 2 } :: ps) (W.setCell ⟨r, 5, none⟩ (.int .i64 2)) := poke_h (i := 5) (.int .i64 2) S
  obtain ⟨-, c1, -, -, c4, -⟩ := gp_cells S1 (List.mem_cons_self ..)
  have HD := Lib.hid ((Frm.Turn.refl [] (W.setCell ⟨r, 5, none⟩ (.int .i64 2))).drew)
  have HR := Lib.hid (rootNow_any (S1.still HD.out) hk (HD.out.cell c1 (by simp)))
  have HC4 := Lib.hid (HD.out.cell c4 (by simp))
  have HEN : Hid (∀ w1 A' k' C', Stash w b A' k' (gpB r b g C' :: ps) w1 → Calls Tryz.prog 125 #[.pointer (some ⟨r, 0, none⟩)] w1 fun e w' => e = .returned (.tuple #[]) ∧ Stash w b A' k' (gpB r b .nilFunc C' :: ps) w') := Lib.hid (fun w1 A' k' C' hS => end_h hS)
  have HST : Hid (∀ w1 A' k', Stash w b A' k' (gpB r b g { C with out := 2 } :: ps) w1 → w1.cell? ⟨r, 4, none⟩ = some (.int .u64 C.root) ∧ w1.cell? ⟨r, 5, none⟩ = some (.int .i64 2) ∧ w1.frozen? ⟨r, 5, none⟩ = false ∧ Stash w b A' k' (gpB r b g { C with out := 1 } :: ps) (w1.setCell ⟨r, 5, none⟩ (.int .i64 1))) := Lib.hid (fun w1 A' k' hS => by
    obtain ⟨-, -, -, -, d4, d5⟩ := gp_cells hS (List.mem_cons_self ..)
    exact ⟨d4, d5, thaw_h (i := 5) hS (List.mem_cons_self ..), poke_h (i := 5) (.int .i64 1) hS⟩)
  have hmk := hmf
  clear S S1 c1 c4
  generalize (A.read 0 0).1 = A' at HR ⊢
  generalize (A.read 0 0).2.1 = x at HR ⊢
  have c4 := HC4.out
  by_cases he : x = C.root
  · rw [if_pos he]
    have hb : (x == C.root) = true := by simpa using he
    clear he
    go_enter Tryz.func134, Tryz.ntmps134
    go_wp2_with fail
    go_region_with (go_at_call 108; (with_reducible refine (HR.out).mono ?_); rintro e w1 ⟨rfl, hS⟩; obtain ⟨d4, d5, f5, hS1⟩ := HST.out _ _ _ hS; have HE := Lib.hid (HEN.out _ _ _ _ hS1); clear hS hS1)
    all_goals go_wp2_with (go_at_call 125; (with_reducible refine (HE.out).mono ?_); rintro e w3 ⟨rfl, hS⟩; have HS3 := Lib.hid hS; clear hS)
    all_goals go_end0
    all_goals exact ⟨rfl, HS3.out⟩
  · rw [if_neg he]
    have hb : (x == C.root) = false := by simpa using he
    clear he
    go_enter Tryz.func134, Tryz.ntmps134
    go_wp2_with fail
    go_region_with (go_at_call 108; (with_reducible refine (HR.out).mono ?_); rintro e w1 ⟨rfl, hS⟩; obtain ⟨d4, -, -, -⟩ := HST.out _ _ _ hS; have HE := Lib.hid (HEN.out _ _ _ _ hS); clear hS)
    all_goals go_wp2_with (go_at_call 125; (with_reducible refine (HE.out).mono ?_); rintro e w3 ⟨rfl, hS⟩; have HS3 := Lib.hid hS; clear hS)
    all_goals go_end0
    all_goals exact ⟨rfl, HS3.out⟩
theorem ggear_any (S : Stash w b A k (gpP r b C :: ps) W) (hk : k ≤ 10000000) (F : C.Fit) :
    Calls Tryz.prog 73 #[.pointer (some ⟨r, 0, none⟩)] W fun e w' => e = .returned (.tuple #[]) ∧ Stash w b (C.step A).1 (k + 1) (gpP r b (C.step A).2 :: ps) w' := by
  refine gstep_any r (nxG r C.st) W (gp_cells S (List.mem_cons_self ..)).1 ?_
  unfold Gp.step
  split
  · rename_i h
    rw [show nxG r C.st = .func (.func 67) #[.pointer (some ⟨r, 0, none⟩)] #[] by unfold nxG; rw [if_pos h]]
    exact call_fn #[.pointer (some ⟨r, 0, none⟩)] #[] W enters_find (gfind_any S hk)
  split
  · rename_i h0 h
    rw [show nxG r C.st = .func (.func 109) #[.pointer (some ⟨r, 0, none⟩)] #[] by unfold nxG; rw [if_neg h0, if_pos h]]
    exact call_fn #[.pointer (some ⟨r, 0, none⟩)] #[] W enters_hold (ghold_any S hk F)
  split
  · rename_i h0 h1 h
    rw [show nxG r C.st = .func (.func 134) #[.pointer (some ⟨r, 0, none⟩)] #[] by unfold nxG; rw [if_neg h0, if_neg h1, if_pos h]]
    exact call_fn #[.pointer (some ⟨r, 0, none⟩)] #[] W enters_check (gcheck_any S hk)
  · rename_i h0 h1 h2
    rw [show nxG r C.st = .nilFunc by unfold nxG; rw [if_neg h0, if_neg h1, if_neg h2]]
    refine (call_none W).mono ?_
    rintro e w' ⟨he, rfl⟩
    exact ⟨he, Sta_more S (by omega)⟩
theorem gstep_h (S : Stash w b A k (gpP r b C :: ps) W) (hk : k ≤ 10000000) (F : C.Fit) :
    Calls Tryz.prog 18 #[.pointer (some ⟨r, 0, none⟩)] W fun e w' => e = .returned (.tuple #[]) ∧ Stash w b (C.step A).1 (k + 1) (gpP r b (C.step A).2 :: ps) w' := by
  have H := Lib.hid (ggear_any S hk F)
  generalize (C.step A).1 = A' at H ⊢
  generalize (C.step A).2 = C' at H ⊢
  clear S F
  go_enter Tryz.func18, Tryz.ntmps18
  go_wp2_with (go_at_call 73; (with_reducible refine (H.out).mono ?_); rintro e w1 ⟨rfl, ha⟩)
  go_end0
  exact ⟨rfl, ha⟩
theorem groot_h (S : Stash w b A k ps W) (hm : gpB r b g C ∈ ps) : Calls Tryz.prog 20 #[.pointer (some ⟨r, 0, none⟩)] W fun e w' => e = .returned (.int .u64 C.root) ∧ W = w' := by
  obtain ⟨c0, c1, c2, c3, c4, c5⟩ := gp_cells S hm
  clear S c0 c1 c2 c3 c5
  generalize C.root = x at c4 ⊢
  go_enter Tryz.func20, Tryz.ntmps20
  go_wp2
  go_ret
  exact ⟨rfl, rfl⟩
theorem gout_h (S : Stash w b A k ps W) (hm : gpB r b g C ∈ ps) : Calls Tryz.prog 21 #[.pointer (some ⟨r, 0, none⟩)] W fun e w' => e = .returned (.int .i64 C.out) ∧ W = w' := by
  obtain ⟨c0, c1, c2, c3, c4, c5⟩ := gp_cells S hm
  clear S c0 c1 c2 c3 c4
  generalize C.out = x at c5 ⊢
  go_enter Tryz.func21, Tryz.ntmps21
  go_wp2
  go_ret
  exact ⟨rfl, rfl⟩
theorem idle_nxG (r st : Nat) (h : st ≤ 3) : idle (nxG r st) = decide (st = 0) := by
  have : st = 0 ∨ st = 1 ∨ st = 2 ∨ st = 3 := by omega
  rcases this with rfl | rfl | rfl | rfl <;> rfl
theorem gdone_g (S : Stash w b A k ps W) (hm : gpP r b C ∈ ps) (hst : C.st ≤ 3) : Calls Tryz.prog 22 #[.pointer (some ⟨r, 0, none⟩)] W fun e w' => e = .returned (.bool (decide (C.st = 0))) ∧ W = w' := by
  have h1 := gdone_any r _ W (nxG_fn r C.st) (gp_cells S hm).1
  rw [idle_nxG r _ hst] at h1
  have H := Lib.hid h1
  clear S hm h1
  generalize decide (C.st = 0) = z at H ⊢
  go_enter Tryz.func22, Tryz.ntmps22
  go_wp2_with (go_at_call 76; (with_reducible refine (H.out).mono ?_); rintro e w1 ⟨rfl, rfl⟩)
  go_ret
  exact ⟨rfl, rfl⟩
set_option maxRecDepth 100000 in
theorem gnew_h (S : Stash w b A k ps W) (seg : Int) (s : Nat) :
    Calls Tryz.prog 12 #[.pointer (some ⟨b, 0, none⟩), .agg #[.int .u64 seg, .int .i64 s]] W fun e w' => ∃ r, e = .returned (.pointer (some ⟨r, 0, none⟩)) ∧ Stash w b A k (gpP r b (Gp.new seg s) :: ps) w' := by
  have HA0 := World.alloc_heap_new W (.cells #[.int .u64 seg, .int .i64 s] 46)
  have hT0 := (Frm.Turn.refl [] W).alloc (.cells #[.int .u64 seg, .int .i64 s] 46)
  have S0 := S.still hT0
  have S1 := add_h S0 (.cells (.nilFunc :: [.pointer (some ⟨b, 0, none⟩), .int .u64 seg, .int .i64 s, .int .u64 0, .int .i64 0]).toArray 142) (World.alloc_heap_new _ _)
  rw [World.size_alloc] at S1
  have HTO := Lib.hid (to_h (v := .func (.func 67) #[.pointer (some ⟨W.heap.size + 1, 0, none⟩)] #[]) S1 (isFn_func _ _ _))
  have p0 := (Frm.cell_row _ _ 0 _ _ _ HA0).trans rfl
  have p1 := (Frm.cell_row _ _ 1 _ _ _ HA0).trans rfl
  have hmk := hmf
  clear S S0 S1 HA0 hT0
  go_enter Tryz.func12, Tryz.ntmps12
  go_wp2_with (go_at_call 66; (with_reducible refine (HTO.out).mono ?_); rintro e w1 ⟨rfl, hS⟩; have HS1 := Lib.hid hS; clear hS)
  go_ret
  exact ⟨_, rfl, HS1.out⟩
end Hld
end Go.Proofs.YtpajafecodkndaaGreat

set_option linter.unusedVariables false
set_option linter.unusedSimpArgs false
namespace Go.Proofs.YtpajafecodkndaaGreat
namespace Hld
open Go.RowKit Go.Maps Arn Pac Clm Cnt Sta

variable {w W W' : World} {b k n r : Nat} {A : Ar} {ps : List Part} {C : Fe} {g v : Value} {base : Nat}
/-! ### words told -/
/-- A clone of words, nil or not. -/
def WClone (w : World) (l : List Int) (e : Ending) (w' : World) : Prop :=
  ∃ ao c, e = .returned (.slice ao l.length c) ∧ WordsAt w' (.slice ao l.length c) l ∧ (∀ k, (Value.slice ao l.length c).ownBlock = some k → w.heap.size ≤ k ∧ k < w'.heap.size) ∧ Frm.Turn [] w w'
theorem wclone_any (v : Value) (l : List Int) (w : World) (h : WordsAt w v l) (hn : l.length ≤ 65536) : Calls Tryz.prog 63 #[v] w (WClone w l) := by
  rcases h with ⟨rfl, rfl⟩ | ⟨a, c, rfl, h⟩
  · refine (uclone_nil w).mono ?_
    rintro e w' ⟨rfl, rfl⟩
    exact ⟨none, 0, rfl, .inl ⟨rfl, rfl⟩, fun k hk => by simp [Value.ownBlock] at hk, Frm.Turn.refl [] _⟩
  · refine (uclone_some a c l w h hn).mono ?_
    rintro e w' ⟨g', c', rfl, h1, h2, h3⟩
    refine ⟨some ⟨g', 0, none⟩, c', rfl, .own h1, fun k hk => ?_, h3⟩
    cases hk
    exact ⟨h2, (h1.lt g' rfl).2⟩
theorem words_row {w : World} {base : Nat} {v : Value} {l : List Int} (h : w.ownsRow base 31 1 v l.length (u64s l)) : WordsAt w v l := by
  have h0 : w.ownsRow 0 31 1 v l.length (u64s l) := ⟨h.1, h.2.imp id (fun ⟨g, c, cur, a, _, r⟩ => ⟨g, c, cur, a, Nat.zero_le _, r⟩)⟩
  rcases h0.2 with ⟨rfl, e⟩ | ⟨g, c, cur, rfl, _⟩
  · exact .inl ⟨rfl, List.length_eq_zero_iff.1 e⟩
  · exact .own h0
/-! ### a fetch -/
def feL (b : Nat) (g v : Value) (C : Fe) : List Value := [g, .pointer (some ⟨b, 0, none⟩), .int .u64 C.seg, .int .i64 C.slot, .int .u64 C.root, .int .u64 C.blk, .int .i64 C.n, v, .int .i64 C.out]
def nxF (r st : Nat) : Value :=
  if st = 1 then .func (.func 68) #[.pointer (some ⟨r, 0, none⟩)] #[]
  else if st = 2 then .func (.func 111) #[.pointer (some ⟨r, 0, none⟩)] #[]
  else if st = 3 then .func (.func 159) #[.pointer (some ⟨r, 0, none⟩)] #[]
  else .nilFunc
theorem nxF_fn (r st : Nat) : IsFn (nxF r st) := by
  unfold nxF
  repeat' split
  all_goals first | exact isFn_func _ _ _ | exact isFn_nil
def feB (r b : Nat) (g v : Value) (C : Fe) : Part := bkP r (.cells (feL b g v C).toArray 145)
def feP (r b : Nat) (v : Value) (C : Fe) : Part := feB r b (nxF r C.st) v C
theorem entersF_hold : Enters Tryz.prog 68 := enters_of Tryz.func68 (by kernel_rfl) rfl
theorem entersF_check : Enters Tryz.prog 111 := enters_of Tryz.func111 (by kernel_rfl) rfl
theorem entersF_read : Enters Tryz.prog 159 := enters_of Tryz.func159 (by kernel_rfl) rfl
theorem fe_cells (S : Stash w b A k ps W) (hm : feB r b g v C ∈ ps) : W.cell? ⟨r, 0, none⟩ = some g ∧ W.cell? ⟨r, 1, none⟩ = some (.pointer (some ⟨b, 0, none⟩)) ∧ W.cell? ⟨r, 2, none⟩ = some (.int .u64 C.seg) ∧ W.cell? ⟨r, 3, none⟩ = some (.int .i64 C.slot) ∧ W.cell? ⟨r, 4, none⟩ = some (.int .u64 C.root) ∧
    W.cell? ⟨r, 5, none⟩ = some (.int .u64 C.blk) ∧ W.cell? ⟨r, 6, none⟩ = some (.int .i64 C.n) ∧ W.cell? ⟨r, 7, none⟩ = some v ∧ W.cell? ⟨r, 8, none⟩ = some (.int .i64 C.out) :=
  ⟨cell_h S hm rfl, cell_h S hm rfl, cell_h S hm rfl, cell_h S hm rfl, cell_h S hm rfl, cell_h S hm rfl, cell_h S hm rfl, cell_h S hm rfl, cell_h S hm rfl⟩
set_option maxRecDepth 100000 in
theorem fend_any (S : Stash w b A k (feB r b g v C :: ps) W) (o : Int) :
    Calls Tryz.prog 135 #[.pointer (some ⟨r, 0, none⟩), .int .i64 o] W fun e w' => e = .returned (.tuple #[]) ∧ Stash w b A k (feB r b .nilFunc v { C with out := o } :: ps) w' := by
  have hc8 := (fe_cells S (List.mem_cons_self ..)).2.2.2.2.2.2.2.2
  have hf8 := thaw_h (i := 8) S (List.mem_cons_self ..)
  have S1 : Stash w b A k (feB r b g v { C with out := o } :: ps) (W.setCell ⟨r, 8, none⟩ (.int .i64 o)) := poke_h (i := 8) (.int .i64 o) S
  have HE := Lib.hid (end_h S1)
  clear S S1
  go_enter Tryz.func135, Tryz.ntmps135
  go_wp2_with (go_at_call 125; (with_reducible refine (HE.out).mono ?_); rintro e w3 ⟨rfl, hS⟩; have HS3 := Lib.hid hS; clear hS)
  go_end0
  exact ⟨rfl, HS3.out⟩
theorem slice_form (S : Stash w b A k ps W) (hm : rwP base v C.ws ∈ ps) : ∃ ao c, v = .slice ao C.ws.length c := by
  have h : W.ownsRow base 31 1 v C.ws.length (u64s C.ws) := S.on _ hm
  exact Frm.row_form h
set_option maxRecDepth 100000 in
set_option maxHeartbeats 1000000 in
theorem goOnF_any (S : Stash w b A k (feB r b g v C :: ps) W) (hm : rwP base v C.ws ∈ ps) :
    Calls Tryz.prog 136 #[.pointer (some ⟨r, 0, none⟩)] W fun e w' => e = .returned (.tuple #[]) ∧ Stash w b A k (feP r b v C.goOn :: ps) w' := by
  obtain ⟨ao, c, rfl⟩ := slice_form S (List.mem_cons_of_mem _ hm)
  obtain ⟨c0, c1, c2, c3, c4, c5, c6, c7, c8⟩ := fe_cells S (List.mem_cons_self ..)
  have HD := Lib.hid ((Frm.Turn.refl [] W).drew)
  have S1 := S.still HD.out
  have hmk := hmf
  unfold Fe.goOn
  by_cases hle : C.n ≤ (C.ws.length : Int)
  · rw [if_pos hle]
    have HE := Lib.hid (fend_any S1 1)
    clear S S1 c0 c1 c2 c3 c4 c5 c8 HD hm
    go_enter Tryz.func136, Tryz.ntmps136
    go_wp2_with fail
    go_region
    all_goals go_wp2_with (go_at_call 135; (with_reducible refine (HE.out).mono ?_); rintro e w1 ⟨rfl, hS⟩; have HS3 := Lib.hid hS; clear hS)
    all_goals first | go_end0 | (refine bodyPost_ret (results_none rfl _ _ _) rfl ?_)
    all_goals exact ⟨rfl, HS3.out⟩
  · rw [if_neg hle]
    have HE := Lib.hid (to_h S1 (v := .func (.func 159) #[.pointer (some ⟨r, 0, none⟩)] #[]) (isFn_func _ _ _))
    clear S S1 c0 c1 c2 c3 c4 c5 c8 HD hm
    go_enter Tryz.func136, Tryz.ntmps136
    go_wp2_with fail
    go_region
    all_goals go_wp2_with (go_at_call 66; (with_reducible refine (HE.out).mono ?_); rintro e w1 ⟨rfl, hS⟩; have HS3 := Lib.hid hS; clear hS)
    all_goals first | go_end0 | (refine bodyPost_ret (results_none rfl _ _ _) rfl ?_)
    all_goals exact ⟨rfl, HS3.out⟩
set_option maxRecDepth 100000 in
theorem holdF_any (S : Stash w b A k (feB r b g v C :: ps) W) (hk : k ≤ 10000000) (F : C.Fit) :
    Calls Tryz.prog 68 #[.pointer (some ⟨r, 0, none⟩)] W fun e w' => e = .returned (.tuple #[]) ∧ Stash w b (A.write C.seg (5 * (ofN C.slot : Int) + 4) C.blk).1 (k + 1) (feB r b (nxF r 2) v C :: ps) w' := by
  obtain ⟨c0, c1, c2, c3, c4, c5, c6, c7, c8⟩ := fe_cells S (List.mem_cons_self ..)
  have HW := Lib.hid (fun W' (hT : Frm.Turn [] W W') => hwrite_any (f := 4) (v := C.blk) (S.still hT) hk (hT.cell c1 (by simp)) (hT.cell c2 (by simp)) (hT.cell c3 (by simp)) F.slot F.seg F.seg64 (.inr rfl) F.blk)
  have hmk := hmf
  have HD := Lib.hid ((Frm.Turn.refl [] W).drew)
  have HTO : Hid (∀ w1 A' k', Stash w b A' k' (feB r b g v C :: ps) w1 → Calls Tryz.prog 66 #[.pointer (some ⟨r, 0, none⟩), .func (.func 111) #[.pointer (some ⟨r, 0, none⟩)] #[]] w1 fun e w' => e = .returned (.tuple #[]) ∧ Stash w b A' k' (feB r b (nxF r 2) v C :: ps) w') := Lib.hid (fun w1 A' k' hS => to_h hS (isFn_func _ _ _))
  clear S c0 c1 c2 c3 c4 c6 c7 c8
  generalize (A.write C.seg (5 * (ofN C.slot : Int) + 4) C.blk).1 = A' at HW ⊢
  go_enter Tryz.func68, Tryz.ntmps68
  go_wp2_with fail
  go_region_with (go_at_call 110; (with_reducible refine (HW.out _ HD.out).mono ?_); rintro e w2 ⟨rfl, hS⟩; have HT2 := Lib.hid (HTO.out _ _ _ hS); clear hS)
  all_goals go_wp2_with (go_at_call 66; (with_reducible refine (HT2.out).mono ?_); rintro e w3 ⟨rfl, hS⟩; have HS3 := Lib.hid hS; clear hS)
  all_goals go_end0
  all_goals exact ⟨rfl, HS3.out⟩
set_option maxRecDepth 100000 in
set_option maxHeartbeats 1000000 in
theorem checkF_any (S : Stash w b A k (feB r b g v C :: ps) W) (hm : rwP base v C.ws ∈ ps) (hk : k ≤ 10000000) :
    Calls Tryz.prog 111 #[.pointer (some ⟨r, 0, none⟩)] W fun e w' => e = .returned (.tuple #[]) ∧ Stash w b (A.read 0 0).1 (k + 1) (feP r b v (if (A.read 0 0).2.1 = C.root then C.goOn else { C with out := 2, st := 0 }) :: ps) w' := by
  obtain ⟨c0, c1, c2, c3, c4, c5, c6, c7, c8⟩ := fe_cells S (List.mem_cons_self ..)
  have HD := Lib.hid ((Frm.Turn.refl [] W).drew)
  have HR := Lib.hid (rootNow_any (S.still HD.out) hk (HD.out.cell c1 (by simp)))
  have c4' := HD.out.cell c4 (by simp)
  have HGO : Hid (∀ w1 A' k', Stash w b A' k' (feB r b g v C :: ps) w1 → Calls Tryz.prog 136 #[.pointer (some ⟨r, 0, none⟩)] w1 fun e w' => e = .returned (.tuple #[]) ∧ Stash w b A' k' (feP r b v C.goOn :: ps) w') := Lib.hid (fun w1 A' k' hS => goOnF_any hS hm)
  have HEN : Hid (∀ w1 A' k', Stash w b A' k' (feB r b g v C :: ps) w1 → Calls Tryz.prog 135 #[.pointer (some ⟨r, 0, none⟩), .int .i64 2] w1 fun e w' => e = .returned (.tuple #[]) ∧ Stash w b A' k' (feP r b v { C with out := 2, st := 0 } :: ps) w') := Lib.hid (fun w1 A' k' hS => fend_any hS 2)
  have HC4 : Hid (∀ w1 A' k', Stash w b A' k' (feB r b g v C :: ps) w1 → w1.cell? ⟨r, 4, none⟩ = some (.int .u64 C.root)) := Lib.hid (fun w1 A' k' hS => (fe_cells hS (List.mem_cons_self ..)).2.2.2.2.1)
  clear S c0 c1 c2 c3 c4 c5 c6 c7 c8 hm
  generalize (A.read 0 0).1 = A' at HR ⊢
  generalize (A.read 0 0).2.1 = x at HR ⊢
  by_cases he : x = C.root
  · rw [if_pos he]
    have hb : (x != C.root) = false := by simpa using he
    clear he
    go_enter Tryz.func111, Tryz.ntmps111
    go_wp2_with fail
    go_region_with (go_at_call 108; (with_reducible refine (HR.out).mono ?_); rintro e w1 ⟨rfl, hS⟩; have d4 := HC4.out _ _ _ hS; have HE := Lib.hid (HGO.out _ _ _ hS); clear hS)
    all_goals go_wp2_with (go_at_call 136; (with_reducible refine (HE.out).mono ?_); rintro e w3 ⟨rfl, hS⟩; have HS3 := Lib.hid hS; clear hS)
    all_goals first | go_end0 | (refine bodyPost_ret (results_none rfl _ _ _) rfl ?_)
    all_goals exact ⟨rfl, HS3.out⟩
  · rw [if_neg he]
    have hb : (x != C.root) = true := by simpa using he
    clear he
    go_enter Tryz.func111, Tryz.ntmps111
    go_wp2_with fail
    go_region_with (go_at_call 108; (with_reducible refine (HR.out).mono ?_); rintro e w1 ⟨rfl, hS⟩; have d4 := HC4.out _ _ _ hS; have HE := Lib.hid (HEN.out _ _ _ hS); clear hS)
    all_goals go_wp2_with (go_at_call 135; (with_reducible refine (HE.out).mono ?_); rintro e w3 ⟨rfl, hS⟩; have HS3 := Lib.hid hS; clear hS)
    all_goals first | go_end0 | (refine bodyPost_ret (results_none rfl _ _ _) rfl ?_)
    all_goals exact ⟨rfl, HS3.out⟩
/-- A word is put behind the others. -/
theorem row_more {W1 W3 : World} {v' : Value} {xs : List Int} {x : Int} {p : Part} (S : Stash w b A k (p :: rwP w.heap.size v xs :: ps) W) (h1 : Frm.Turn [] W W1) (h3 : W1.grownBy W3 v.ownBlock) (hl : v'.ownBlock = v.ownBlock ∨ v'.ownBlock = some W1.heap.size) (ho : W3.ownsRow w.heap.size 31 1 v' (xs.length + 1) (u64s xs ++ [.int .u64 x])) :
    Stash w b A k (p :: rwP w.heap.size v' (xs ++ [x]) :: ps) W3 := by
  have S1 := (S.still h1).perm (List.Perm.swap ..)
  have hT3 := Frm.Turn.of_grown h3
  have he : u64s xs ++ [.int .u64 x] = u64s (xs ++ [x]) := by simp [u64s]
  have hlen : (xs ++ [x]).length = xs.length + 1 := by simp
  rw [he, ← hlen] at ho
  refine Stash.perm (S1.act (p' := rwP w.heap.size v' (xs ++ [x])) hT3 (fun q hq => hq) (rwP_fra _ _ _) ho (fun q hq => ?_) (by simp [rwP]) (by simp [rwP])) (List.Perm.swap ..)
  have hq' : v'.ownBlock = some q := by simpa [rwP] using hq
  rcases hl with e | e
  · left; rw [e] at hq'; simp [rwP, hq']
  · right
    rw [e] at hq'; cases hq'
    exact ⟨Nat.le_refl _, (ho.lt _ e).2⟩
set_option maxRecDepth 100000 in
set_option maxHeartbeats 4000000 in
theorem readF_any (S : Stash w b A k (feB r b g v C :: rwP w.heap.size v C.ws :: ps) W) (hk : k ≤ 10000000) (F : C.Fit) (hl : C.ws.length ≤ 60000) :
    Calls Tryz.prog 159 #[.pointer (some ⟨r, 0, none⟩)] W fun e w' => e = .returned (.tuple #[]) ∧ ∃ v', Stash w b (A.read C.blk C.ws.length).1 (k + 1) (feP r b v' (C.add (A.read C.blk C.ws.length).2.1).goOn :: rwP w.heap.size v' (C.add (A.read C.blk C.ws.length).2.1).ws :: ps) w' := by
  obtain ⟨ao, c, rfl⟩ := slice_form S (List.mem_cons_of_mem _ (List.mem_cons_self ..))
  obtain ⟨c0, c1, c2, c3, c4, c5, c6, c7, c8⟩ := fe_cells S (List.mem_cons_self ..)
  have HD := Lib.hid ((Frm.Turn.refl [] W).drew)
  have HRD := Lib.hid (read_h (S.still HD.out) hk C.blk C.ws.length F.blk (wf_small (by omega) (by omega)))
  have hx64 := read_wr A S.kin.ok C.blk C.ws.length
  obtain ⟨i0, hi, hz0, hz1, hz2⟩ := info_parts info_u64
  have HLW : Hid (C.ws.length ≤ 60000) := Lib.hid hl
  have HL1 : Hid (∀ W', (Frm.Turn [] W W' → True)) := Lib.hid (fun _ _ => trivial)
  have n0 : (0 : Int) ≤ (C.ws.length : Int) := by omega
  have n1 : (C.ws.length : Int) ≤ 60000 := by omega
  clear S c0 c2 c3 c4 c6 c8
  generalize hA' : (A.read C.blk C.ws.length).1 = A' at HRD ⊢
  generalize hx : (A.read C.blk C.ws.length).2.1 = x at HRD hx64 ⊢
  clear hA' hx hl
  go_enter Tryz.func159, Tryz.ntmps159
  go_wp2_with fail
  go_cut [2] (fun s2 W2 => s2 = .int .u64 x ∧ Stash w b A' (k + 1) (feB r b g (.slice ao C.ws.length c) C :: rwP w.heap.size (.slice ao C.ws.length c) C.ws :: ps) W2)
  case first =>
    go_region_with (go_at_call 58; (with_reducible refine (HRD.out).mono ?_); rintro e w1 ⟨rfl, hS⟩; have HS1 := Lib.hid hS; clear hS)
    all_goals go_wp2_with fail
    all_goals go_meet
    all_goals exact ⟨rfl, HS1.out⟩
  case rest =>
    obtain ⟨rfl, hS⟩ := hcut
    obtain ⟨-, -, -, -, -, -, -, d7, -⟩ := fe_cells hS (List.mem_cons_self ..)
    have hrow : wc.ownsRow w.heap.size 31 1 (.slice ao C.ws.length c) C.ws.length (u64s C.ws) := hS.on (rwP w.heap.size (.slice ao C.ws.length c) C.ws) (by simp)
    have HRW := Lib.hid (Frm.owns_turn hrow ((Frm.Turn.refl [] wc).alloc (.cells #[.int .u64 x] 31)) (by simp))
    have HB8 : Hid (w.heap.size ≤ (wc.alloc (.cells #[.int .u64 x] 31)).heap.size) := Lib.hid (by have := hS.kin.turn.size; simp; omega)
    have HMO := Lib.hid (fun (W3 : World) (v' : Value) => row_more (v' := v') (W3 := W3) (x := x) hS ((Frm.Turn.refl [] wc).alloc (.cells #[.int .u64 x] 31)))
    have HTA := Lib.hid ((Frm.Turn.refl [] wc).alloc (.cells #[.int .u64 x] 31))
    clear hS hrow c1 c5 c7
    go_wp2_with (first
      | (at_builtin; go_must (refine wpList_append_own_at _ rfl (.tmp 27) (.tmp 29) 25 rfl w.heap.size 31 i0 (.int .u64 0) 1 8 under_u64s hi hz0 hz1 hz2 rfl (by decide) (.slice ao C.ws.length c) C.ws.length (u64s C.ws) rfl HRW.out ⟨wc.heap.size, 0, none⟩ 1 1 [.int .u64 x] rfl rfl (Dr.one_new _ _ _) (by simp [Value.oneCell']) (by unfold maxLen; omega) (by omega) HB8.out ?_); intro v9 w9 hown9 hg9 _ hl9; obtain ⟨va, vc, rfl⟩ := Frm.row_form hown9; have hS9 := HMO.out w9 (.slice va (C.ws.length + 1) vc) hg9 hl9 hown9; obtain ⟨-, -, -, -, -, -, -, d79, -⟩ := fe_cells hS9 (List.mem_cons_self ..); have f79 := thaw_h (i := 7) hS9 (List.mem_cons_self ..); have HGO := Lib.hid (goOnF_any (C := C.add x) (g := g) (show Stash w b A' (k + 1) (feB r b g (.slice va (C.ws.length + 1) vc) (C.add x) :: rwP w.heap.size (.slice va (C.ws.length + 1) vc) (C.add x).ws :: ps) (w9.setCell ⟨r, 7, none⟩ (.slice va (C.ws.length + 1) vc)) from poke_h (i := 7) (.slice va (C.ws.length + 1) vc) hS9) (base := w.heap.size) (List.mem_cons_self ..)); clear hown9 hg9 hl9 hS9)
      | (go_at_call 136; (with_reducible refine (HGO.out).mono ?_); rintro e w3 ⟨rfl, hS⟩; have HS3 := Lib.hid hS; clear hS))
    go_end0
    exact ⟨rfl, _, HS3.out⟩
theorem fgear_any (S : Stash w b A k (feP r b v C :: rwP w.heap.size v C.ws :: ps) W) (hk : k ≤ 10000000) (F : C.Fit) (hl : C.ws.length ≤ 60000) :
    Calls Tryz.prog 73 #[.pointer (some ⟨r, 0, none⟩)] W fun e w' => e = .returned (.tuple #[]) ∧ ∃ v', Stash w b (C.step A).1 (k + 1) (feP r b v' (C.step A).2 :: rwP w.heap.size v' (C.step A).2.ws :: ps) w' := by
  refine gstep_any r (nxF r C.st) W (fe_cells S (List.mem_cons_self ..)).1 ?_
  unfold Fe.step
  split
  · rename_i h
    rw [show nxF r C.st = .func (.func 68) #[.pointer (some ⟨r, 0, none⟩)] #[] by unfold nxF; rw [if_pos h]]
    exact call_fn #[.pointer (some ⟨r, 0, none⟩)] #[] W entersF_hold ((holdF_any S hk F).mono fun e w' ⟨he, hS⟩ => ⟨he, v, hS⟩)
  split
  · rename_i h0 h
    rw [show nxF r C.st = .func (.func 111) #[.pointer (some ⟨r, 0, none⟩)] #[] by unfold nxF; rw [if_neg h0, if_pos h]]
    refine call_fn #[.pointer (some ⟨r, 0, none⟩)] #[] W entersF_check ((checkF_any S (base := w.heap.size) (List.mem_cons_self ..) hk).mono fun e w' ⟨he, hS⟩ => ⟨he, v, ?_⟩)
    have hws : (if (A.read 0 0).2.1 = C.root then C.goOn else { C with out := 2, st := 0 }).ws = C.ws := by
      split
      · unfold Fe.goOn; split <;> rfl
      · rfl
    dsimp only
    rw [hws]
    exact hS
  split
  · rename_i h0 h1 h
    rw [show nxF r C.st = .func (.func 159) #[.pointer (some ⟨r, 0, none⟩)] #[] by unfold nxF; rw [if_neg h0, if_neg h1, if_pos h]]
    refine call_fn #[.pointer (some ⟨r, 0, none⟩)] #[] W entersF_read ((readF_any S hk F hl).mono fun e w' ⟨he, v', hS⟩ => ⟨he, v', ?_⟩)
    have hws : (C.add (A.read C.blk C.ws.length).2.1).goOn.ws = (C.add (A.read C.blk C.ws.length).2.1).ws := by
      unfold Fe.goOn; split <;> rfl
    dsimp only
    rw [hws]
    exact hS
  · rename_i h0 h1 h2
    rw [show nxF r C.st = .nilFunc by unfold nxF; rw [if_neg h0, if_neg h1, if_neg h2]]
    refine (call_none W).mono ?_
    rintro e w' ⟨he, rfl⟩
    exact ⟨he, v, Sta_more S (by omega)⟩
theorem fstep_h (S : Stash w b A k (feP r b v C :: rwP w.heap.size v C.ws :: ps) W) (hk : k ≤ 10000000) (F : C.Fit) (hl : C.ws.length ≤ 60000) :
    Calls Tryz.prog 23 #[.pointer (some ⟨r, 0, none⟩)] W fun e w' => e = .returned (.tuple #[]) ∧ ∃ v', Stash w b (C.step A).1 (k + 1) (feP r b v' (C.step A).2 :: rwP w.heap.size v' (C.step A).2.ws :: ps) w' := by
  have H := Lib.hid (fgear_any S hk F hl)
  generalize (C.step A).1 = A' at H ⊢
  generalize (C.step A).2 = C' at H ⊢
  clear S F hl
  go_enter Tryz.func23, Tryz.ntmps23
  go_wp2_with (go_at_call 73; (with_reducible refine (H.out).mono ?_); rintro e w1 ⟨rfl, ha⟩)
  go_end0
  exact ⟨rfl, ha⟩
theorem fout_h (S : Stash w b A k ps W) (hm : feB r b g v C ∈ ps) : Calls Tryz.prog 27 #[.pointer (some ⟨r, 0, none⟩)] W fun e w' => e = .returned (.int .i64 C.out) ∧ W = w' := by
  obtain ⟨c0, c1, c2, c3, c4, c5, c6, c7, c8⟩ := fe_cells S hm
  clear S c0 c1 c2 c3 c4 c5 c6 c7
  generalize C.out = x at c8 ⊢
  go_enter Tryz.func27, Tryz.ntmps27
  go_wp2
  go_ret
  exact ⟨rfl, rfl⟩
theorem fwords_h (S : Stash w b A k ps W) (hm : feB r b g v C ∈ ps) (hm2 : rwP base v C.ws ∈ ps) (hl : C.ws.length ≤ 60000) : Calls Tryz.prog 26 #[.pointer (some ⟨r, 0, none⟩)] W (WClone W C.ws) := by
  obtain ⟨ao, c, rfl⟩ := slice_form S hm2
  obtain ⟨c0, c1, c2, c3, c4, c5, c6, c7, c8⟩ := fe_cells S hm
  have hrow : W.ownsRow base 31 1 (.slice ao C.ws.length c) C.ws.length (u64s C.ws) := S.on _ hm2
  have H := Lib.hid (wclone_any _ C.ws W (words_row hrow) (by omega))
  clear S c0 c1 c2 c3 c4 c5 c6 c8 hrow hl
  go_enter Tryz.func26, Tryz.ntmps26
  go_wp2_with (go_at_call 63; (with_reducible refine (H.out).mono ?_); rintro e w1 ⟨ao2, c2, rfl, h⟩; have H1 := Lib.hid h; clear h)
  go_ret
  exact ⟨ao2, c2, rfl, H1.out⟩
theorem idle_nxF (r st : Nat) (h : st ≤ 3) : idle (nxF r st) = decide (st = 0) := by
  have : st = 0 ∨ st = 1 ∨ st = 2 ∨ st = 3 := by omega
  rcases this with rfl | rfl | rfl | rfl <;> rfl
theorem fdone_h (S : Stash w b A k ps W) (hm : feP r b v C ∈ ps) (hst : C.st ≤ 3) : Calls Tryz.prog 28 #[.pointer (some ⟨r, 0, none⟩)] W fun e w' => e = .returned (.bool (decide (C.st = 0))) ∧ W = w' := by
  have h1 := gdone_any r _ W (nxF_fn r C.st) (fe_cells S hm).1
  rw [idle_nxF r _ hst] at h1
  have H := Lib.hid h1
  clear S hm h1
  generalize decide (C.st = 0) = z at H ⊢
  go_enter Tryz.func28, Tryz.ntmps28
  go_wp2_with (go_at_call 76; (with_reducible refine (H.out).mono ?_); rintro e w1 ⟨rfl, rfl⟩)
  go_ret
  exact ⟨rfl, rfl⟩
set_option maxRecDepth 100000 in
set_option maxHeartbeats 1000000 in
theorem fnew_h (S : Stash w b A k ps W) (seg : Int) (s : Nat) (rt blk n : Int) :
    Calls Tryz.prog 13 #[.pointer (some ⟨b, 0, none⟩), .agg #[.int .u64 seg, .int .i64 s], .int .u64 rt, .int .u64 blk, .int .i64 n] W fun e w' => ∃ r, e = .returned (.pointer (some ⟨r, 0, none⟩)) ∧ Stash w b A k (feP r b (.slice none 0 0) (Fe.new seg s rt blk n) :: rwP w.heap.size (.slice none 0 0) [] :: ps) w' := by
  have HA0 := World.alloc_heap_new W (.cells #[.int .u64 seg, .int .i64 s] 46)
  have hT0 := (Frm.Turn.refl [] W).alloc (.cells #[.int .u64 seg, .int .i64 s] 46)
  have S0 : Stash w b A k (rwP w.heap.size (.slice none 0 0) [] :: ps) _ := S.add hT0 (rwP_fra _ _ _) (World.ownsRow_nil _ _ _ _) (by simp [rwP, Value.ownBlock]) (by simp [rwP, Value.ownBlock]) (by simp [rwP, Value.ownBlock])
  have S1 := add_h S0 (.cells (.nilFunc :: [.pointer (some ⟨b, 0, none⟩), .int .u64 seg, .int .i64 s, .int .u64 rt, .int .u64 blk, .int .i64 n, .slice none 0 0, .int .i64 0]).toArray 145) (World.alloc_heap_new _ _)
  rw [World.size_alloc] at S1
  have HTO := Lib.hid (to_h (v := .func (.func 68) #[.pointer (some ⟨W.heap.size + 1, 0, none⟩)] #[]) S1 (isFn_func _ _ _))
  have p0 := (Frm.cell_row _ _ 0 _ _ _ HA0).trans rfl
  have p1 := (Frm.cell_row _ _ 1 _ _ _ HA0).trans rfl
  have hmk := hmf
  clear S S0 S1 HA0 hT0
  go_enter Tryz.func13, Tryz.ntmps13
  go_wp2_with (go_at_call 66; (with_reducible refine (HTO.out).mono ?_); rintro e w1 ⟨rfl, hS⟩; have HS1 := Lib.hid hS; clear hS)
  go_ret
  exact ⟨_, rfl, HS1.out⟩
end Hld
end Go.Proofs.YtpajafecodkndaaGreat

set_option linter.unusedVariables false
set_option linter.unusedSimpArgs false
namespace Go.Proofs.YtpajafecodkndaaGreat
namespace Hld
open Go.RowKit Go.Maps Arn Pac Clm Cnt Sta

variable {w W W' : World} {b k n r : Nat} {A : Ar} {ps : List Part} {C : Cr} {g : Value}
def crL (b : Nat) (g : Value) (C : Cr) : List Value := [g, .pointer (some ⟨b, 0, none⟩), .int .u64 C.seg, .int .i64 C.slot]
def nxC (r st : Nat) : Value :=
  if st = 1 then .func (.func 69) #[.pointer (some ⟨r, 0, none⟩)] #[]
  else if st = 2 then .func (.func 112) #[.pointer (some ⟨r, 0, none⟩)] #[]
  else .nilFunc
theorem nxC_isFn (r st : Nat) : IsFn (nxC r st) := by
  unfold nxC
  repeat' split
  all_goals first | exact isFn_func _ _ _ | exact isFn_nil
def crB (r b : Nat) (g : Value) (C : Cr) : Part := bkP r (.cells (crL b g C).toArray 147)
def crP (r b : Nat) (C : Cr) : Part := crB r b (nxC r C.st) C
theorem enters_clearA : Enters Tryz.prog 69 := enters_of Tryz.func69 (by kernel_rfl) rfl
theorem enters_clearB : Enters Tryz.prog 112 := enters_of Tryz.func112 (by kernel_rfl) rfl
theorem cr_cells (S : Stash w b A k ps W) (hm : crB r b g C ∈ ps) : W.cell? ⟨r, 0, none⟩ = some g ∧ W.cell? ⟨r, 1, none⟩ = some (.pointer (some ⟨b, 0, none⟩)) ∧ W.cell? ⟨r, 2, none⟩ = some (.int .u64 C.seg) ∧ W.cell? ⟨r, 3, none⟩ = some (.int .i64 C.slot) :=
  ⟨cell_h S hm rfl, cell_h S hm rfl, cell_h S hm rfl, cell_h S hm rfl⟩
set_option maxRecDepth 100000 in
theorem clearA_any (S : Stash w b A k (crB r b g C :: ps) W) (hk : k ≤ 10000000) (F : C.Fit) :
    Calls Tryz.prog 69 #[.pointer (some ⟨r, 0, none⟩)] W fun e w' => e = .returned (.tuple #[]) ∧ Stash w b (A.write C.seg (5 * (ofN C.slot : Int) + 3) 0).1 (k + 1) (crB r b (nxC r 2) C :: ps) w' := by
  obtain ⟨c0, c1, c2, c3⟩ := cr_cells S (List.mem_cons_self ..)
  have HW := Lib.hid (hwrite_any (f := 3) (v := 0) S hk c1 c2 c3 F.slot F.seg F.seg64 (.inl rfl) w64_zero)
  have hmk := hmf
  have HTO : Hid (∀ w1 A' k', Stash w b A' k' (crB r b g C :: ps) w1 → Calls Tryz.prog 66 #[.pointer (some ⟨r, 0, none⟩), .func (.func 112) #[.pointer (some ⟨r, 0, none⟩)] #[]] w1 fun e w' => e = .returned (.tuple #[]) ∧ Stash w b A' k' (crB r b (nxC r 2) C :: ps) w') := Lib.hid (fun w1 A' k' hS => to_h hS (isFn_func _ _ _))
  clear S c0 c1 c2 c3
  generalize (A.write C.seg (5 * (ofN C.slot : Int) + 3) 0).1 = A' at HW ⊢
  go_enter Tryz.func69, Tryz.ntmps69
  go_wp2_with (first
    | (go_at_call 110; (with_reducible refine (HW.out).mono ?_); rintro e w2 ⟨rfl, hS⟩; have HT2 := Lib.hid (HTO.out _ _ _ hS); clear hS)
    | (go_at_call 66; (with_reducible refine (HT2.out).mono ?_); rintro e w3 ⟨rfl, hS⟩; have HS3 := Lib.hid hS; clear hS))
  go_end0
  exact ⟨rfl, HS3.out⟩
set_option maxRecDepth 100000 in
theorem clearB_any (S : Stash w b A k (crB r b g C :: ps) W) (hk : k ≤ 10000000) (F : C.Fit) :
    Calls Tryz.prog 112 #[.pointer (some ⟨r, 0, none⟩)] W fun e w' => e = .returned (.tuple #[]) ∧ Stash w b (A.write C.seg (5 * (ofN C.slot : Int) + 4) 0).1 (k + 1) (crB r b .nilFunc C :: ps) w' := by
  obtain ⟨c0, c1, c2, c3⟩ := cr_cells S (List.mem_cons_self ..)
  have HW := Lib.hid (hwrite_any (f := 4) (v := 0) S hk c1 c2 c3 F.slot F.seg F.seg64 (.inr rfl) w64_zero)
  have HTO : Hid (∀ w1 A' k', Stash w b A' k' (crB r b g C :: ps) w1 → Calls Tryz.prog 125 #[.pointer (some ⟨r, 0, none⟩)] w1 fun e w' => e = .returned (.tuple #[]) ∧ Stash w b A' k' (crB r b .nilFunc C :: ps) w') := Lib.hid (fun w1 A' k' hS => end_h hS)
  clear S c0 c1 c2 c3
  generalize (A.write C.seg (5 * (ofN C.slot : Int) + 4) 0).1 = A' at HW ⊢
  go_enter Tryz.func112, Tryz.ntmps112
  go_wp2_with (first
    | (go_at_call 110; (with_reducible refine (HW.out).mono ?_); rintro e w2 ⟨rfl, hS⟩; have HT2 := Lib.hid (HTO.out _ _ _ hS); clear hS)
    | (go_at_call 125; (with_reducible refine (HT2.out).mono ?_); rintro e w3 ⟨rfl, hS⟩; have HS3 := Lib.hid hS; clear hS))
  go_end0
  exact ⟨rfl, HS3.out⟩
theorem cgear_any (S : Stash w b A k (crP r b C :: ps) W) (hk : k ≤ 10000000) (F : C.Fit) :
    Calls Tryz.prog 73 #[.pointer (some ⟨r, 0, none⟩)] W fun e w' => e = .returned (.tuple #[]) ∧ Stash w b (C.step A).1 (k + 1) (crP r b (C.step A).2 :: ps) w' := by
  refine gstep_any r (nxC r C.st) W (cr_cells S (List.mem_cons_self ..)).1 ?_
  unfold Cr.step
  split
  · rename_i h
    rw [show nxC r C.st = .func (.func 69) #[.pointer (some ⟨r, 0, none⟩)] #[] by unfold nxC; rw [if_pos h]]
    exact call_fn #[.pointer (some ⟨r, 0, none⟩)] #[] W enters_clearA (clearA_any S hk F)
  split
  · rename_i h0 h
    rw [show nxC r C.st = .func (.func 112) #[.pointer (some ⟨r, 0, none⟩)] #[] by unfold nxC; rw [if_neg h0, if_pos h]]
    exact call_fn #[.pointer (some ⟨r, 0, none⟩)] #[] W enters_clearB (clearB_any S hk F)
  · rename_i h0 h1
    rw [show nxC r C.st = .nilFunc by unfold nxC; rw [if_neg h0, if_neg h1]]
    refine (call_none W).mono ?_
    rintro e w' ⟨he, rfl⟩
    exact ⟨he, Sta_more S (by omega)⟩
theorem cstep_h (S : Stash w b A k (crP r b C :: ps) W) (hk : k ≤ 10000000) (F : C.Fit) :
    Calls Tryz.prog 29 #[.pointer (some ⟨r, 0, none⟩)] W fun e w' => e = .returned (.tuple #[]) ∧ Stash w b (C.step A).1 (k + 1) (crP r b (C.step A).2 :: ps) w' := by
  have H := Lib.hid (cgear_any S hk F)
  generalize (C.step A).1 = A' at H ⊢
  generalize (C.step A).2 = C' at H ⊢
  clear S F
  go_enter Tryz.func29, Tryz.ntmps29
  go_wp2_with (go_at_call 73; (with_reducible refine (H.out).mono ?_); rintro e w1 ⟨rfl, ha⟩)
  go_end0
  exact ⟨rfl, ha⟩
theorem idle_nxC (r st : Nat) (h : st ≤ 2) : idle (nxC r st) = decide (st = 0) := by
  have : st = 0 ∨ st = 1 ∨ st = 2 := by omega
  rcases this with rfl | rfl | rfl <;> rfl
theorem cdone_h (S : Stash w b A k ps W) (hm : crP r b C ∈ ps) (hst : C.st ≤ 2) : Calls Tryz.prog 31 #[.pointer (some ⟨r, 0, none⟩)] W fun e w' => e = .returned (.bool (decide (C.st = 0))) ∧ W = w' := by
  have h1 := gdone_any r _ W (nxC_isFn r C.st) (cr_cells S hm).1
  rw [idle_nxC r _ hst] at h1
  have H := Lib.hid h1
  clear S hm h1
  generalize decide (C.st = 0) = z at H ⊢
  go_enter Tryz.func31, Tryz.ntmps31
  go_wp2_with (go_at_call 76; (with_reducible refine (H.out).mono ?_); rintro e w1 ⟨rfl, rfl⟩)
  go_ret
  exact ⟨rfl, rfl⟩
set_option maxRecDepth 100000 in
theorem cnew_h (S : Stash w b A k ps W) (seg : Int) (s : Nat) :
    Calls Tryz.prog 14 #[.pointer (some ⟨b, 0, none⟩), .agg #[.int .u64 seg, .int .i64 s]] W fun e w' => ∃ r, e = .returned (.pointer (some ⟨r, 0, none⟩)) ∧ Stash w b A k (crP r b ⟨1, seg, s⟩ :: ps) w' := by
  have HA0 := World.alloc_heap_new W (.cells #[.int .u64 seg, .int .i64 s] 46)
  have hT0 := (Frm.Turn.refl [] W).alloc (.cells #[.int .u64 seg, .int .i64 s] 46)
  have S1 := add_h (S.still hT0) (.cells (.nilFunc :: [.pointer (some ⟨b, 0, none⟩), .int .u64 seg, .int .i64 s]).toArray 147) (World.alloc_heap_new _ _)
  rw [World.size_alloc] at S1
  have HTO := Lib.hid (to_h (v := .func (.func 69) #[.pointer (some ⟨W.heap.size + 1, 0, none⟩)] #[]) S1 (isFn_func _ _ _))
  have p0 := (Frm.cell_row _ _ 0 _ _ _ HA0).trans rfl
  have p1 := (Frm.cell_row _ _ 1 _ _ _ HA0).trans rfl
  have hmk := hmf
  clear S S1 HA0 hT0
  go_enter Tryz.func14, Tryz.ntmps14
  go_wp2_with (go_at_call 66; (with_reducible refine (HTO.out).mono ?_); rintro e w1 ⟨rfl, hS⟩; have HS1 := Lib.hid hS; clear hS)
  go_ret
  exact ⟨_, rfl, HS1.out⟩
end Hld
end Go.Proofs.YtpajafecodkndaaGreat

set_option linter.unusedVariables false
set_option linter.unusedSimpArgs false
namespace Go.Proofs.YtpajafecodkndaaGreat
namespace Hld
open Go.RowKit Go.Maps Arn Pac Clm Cnt Sta

variable {w W W' : World} {b k n r : Nat} {A : Ar} {ps : List Part} {sg h rt ha hb : Int} {bw : List Int}
theorem u64s_get {l : List Int} {j : Nat} (h : j < l.length) : (u64s l)[j]? = some (.int .u64 (l.getD j 0)) := by
  simp [u64s, h]
theorem wordsAt_cell {w : World} {v : Value} {l : List Int} (h : WordsAt w v l) (hp : 0 < l.length) : ∃ a c, v = .slice (some a) l.length c ∧ ∀ j u, (u64s l)[j]? = some u → w.cell? (a.add j) = some u := by
  rcases h with ⟨rfl, rfl⟩ | ⟨a, c, rfl, h⟩
  · simp at hp
  · exact ⟨a, c, rfl, h⟩
set_option maxHeartbeats 1000000 in
theorem words_same {w : World} {v1 v2 : Value} {l : List Int} (h1 : WordsAt w v1 l) (h2 : WordsAt w v2 l) (hl : l.length ≤ 60000) :
    Calls Tryz.prog 77 #[v1, v2] w fun e w' => e = .returned (.bool true) ∧ Frm.Turn [] w w' := by
  obtain ⟨a1, c1, hv1⟩ : ∃ a c, v1 = .slice a l.length c := by
    rcases h1 with ⟨rfl, rfl⟩ | ⟨a, c, rfl, _⟩ <;> exact ⟨_, _, rfl⟩
  obtain ⟨a2, c2, hv2⟩ : ∃ a c, v2 = .slice a l.length c := by
    rcases h2 with ⟨rfl, rfl⟩ | ⟨a, c, rfl, _⟩ <;> exact ⟨_, _, rfl⟩
  subst hv1
  subst hv2
  have H1 := Lib.hid h1
  have H2 := Lib.hid h2
  obtain ⟨n, HN⟩ : ∃ n, Hid (n = l.length) := ⟨_, Lib.hid rfl⟩
  rw [← HN.out] at hl ⊢
  clear h1 h2
  go_enter Tryz.func77, Tryz.ntmps77
  go_wp2
  go_loopw [13] (fun i wr => ∃ k : Nat, k ≤ n ∧ i = .int .i64 k ∧ Frm.Turn [] w wr) (fun i _ => n - (intOf i).toNat)
  case atStart => exact ⟨0, Nat.zero_le _, rfl, Frm.Turn.refl [] _⟩
  case round =>
    obtain ⟨k, hk, rfl, hT⟩ := hrel
    by_cases hlt : k < n
    · obtain ⟨b1, d1, e1, q1⟩ := wordsAt_cell H1.out (by rw [← HN.out]; omega)
      obtain ⟨b2, d2, e2, q2⟩ := wordsAt_cell H2.out (by rw [← HN.out]; omega)
      simp only [Value.slice.injEq] at e1 e2
      obtain ⟨rfl, _, rfl⟩ := e1
      obtain ⟨rfl, _, rfl⟩ := e2
      have x1 := hT.cell (q1 k _ (u64s_get (by rw [← HN.out]; omega))) (by simp)
      have x2 := hT.cell (q2 k _ (u64s_get (by rw [← HN.out]; omega))) (by simp)
      have i1 : (k : Int) < (n : Int) := by omega
      have i0 : (0 : Int) ≤ (k : Int) := by omega
      have HT := Lib.hid hT
      clear hT q1 q2
      generalize l.getD k 0 = z at x1 x2
      go_wp2_with fail
      go_quiet (fail)
      go_wp2
      refine ⟨⟨k + 1, by omega, by simp, by repeat (first | exact HT.out | apply Frm.Turn.drewN | apply Frm.Turn.drew)⟩, ?_⟩
      simp [intOf]; omega
    · obtain rfl : k = n := by omega
      have HT := Lib.hid hT
      clear hT
      go_wp2
      go_ret
      exact ⟨rfl, HT.out⟩
theorem words_alike {w : World} {v1 v2 : Value} {l : List Int} (h1 : WordsAt w v1 l) (h2 : WordsAt w v2 l) (hl : l.length ≤ 60000) :
    Calls Tryz.prog 25 #[v1, v2] w fun e w' => e = .returned (.int .i64 1) ∧ Frm.Turn [] w w' := by
  have H := Lib.hid (words_same h1 h2 hl)
  obtain ⟨a1, c1, hv1⟩ : ∃ a c, v1 = .slice a l.length c := by
    rcases h1 with ⟨rfl, rfl⟩ | ⟨a, c, rfl, _⟩ <;> exact ⟨_, _, rfl⟩
  obtain ⟨a2, c2, hv2⟩ : ∃ a c, v2 = .slice a l.length c := by
    rcases h2 with ⟨rfl, rfl⟩ | ⟨a, c, rfl, _⟩ <;> exact ⟨_, _, rfl⟩
  subst hv1
  subst hv2
  clear h1 h2
  go_enter Tryz.func25, Tryz.ntmps25
  go_wp2_with (go_at_call 77; (with_reducible refine (H.out).mono ?_); rintro e w1 ⟨rfl, hT⟩; have HT := Lib.hid hT; clear hT)
  go_ret
  exact ⟨rfl, HT.out⟩
/-! ### what three, six and two steps make -/
/-- A grip behind j steps, when the root stays. -/
def gAt (sg rt : Int) (j : Nat) : Gp := if j = 0 then Gp.new sg 0 else if j = 1 then ⟨2, sg, 0, rt, 0⟩ else if j = 2 then ⟨3, sg, 0, rt, 0⟩ else ⟨0, sg, 0, rt, 1⟩
theorem gAt_fit (h0 : sg ≠ 0) (h1 : W64 sg) (h2 : W64 rt) (j : Nat) : (gAt sg rt j).Fit := by
  unfold gAt Gp.new
  repeat' split
  all_goals exact ⟨h0, h1, by show 0 < 255; omega, by first | exact h2 | exact w64_zero, by dsimp only; omega⟩
theorem gAt_step (H : HV A sg h rt ha hb bw) {j : Nat} (hj : j < 3) : ∃ ha', HV ((gAt sg rt j).step A).1 sg h rt ha' hb bw ∧ ((gAt sg rt j).step A).2 = gAt sg rt (j + 1) ∧ (j = 1 → ha' = rt / 1048576) ∧ (j ≠ 1 → ha' = ha) := by
  have ew : 5 * ((ofN 0 : Nat) : Int) + 3 = 3 := by rw [of0]; rfl
  have : j = 0 ∨ j = 1 ∨ j = 2 := by omega
  rcases this with rfl | rfl | rfl
  · refine ⟨ha, H.read 0 0, ?_, by omega, by omega⟩
    show ({ Gp.new sg 0 with root := (A.read 0 0).2.1, st := 2 } : Gp) = _
    rw [H.root]; rfl
  · refine ⟨rt / 1048576, ?_, rfl, by omega, by omega⟩
    show HV (A.write sg (5 * ((ofN 0 : Nat) : Int) + 3) (rt / 1048576)).1 _ _ _ _ _ _
    rw [ew]
    exact H.putA (top64 H.rt64)
  · refine ⟨ha, H.read 0 0, ?_, by omega, by omega⟩
    show (⟨0, sg, 0, rt, if (A.read 0 0).2.1 = rt then 1 else 2⟩ : Gp) = _
    rw [H.root, if_pos rfl]; rfl
/-- A fetch of all of the block's words behind j steps, when the root is the one. -/
def fAt (sg rt h : Int) (bw : List Int) (j : Nat) : Fe := if j = 0 then Fe.new sg 0 rt h bw.length else if j = 1 then ⟨2, sg, 0, rt, h, bw.length, [], 0⟩ else if j < 2 + bw.length then ⟨3, sg, 0, rt, h, bw.length, bw.take (j - 2), 0⟩ else ⟨0, sg, 0, rt, h, bw.length, bw, 1⟩
theorem fAt_ws (j : Nat) : (fAt sg rt h bw j).ws.length ≤ bw.length := by
  unfold fAt Fe.new
  repeat' split
  all_goals dsimp only
  all_goals first | (simp; done) | (rw [List.length_take]; omega)
theorem fAt_fit (h0 : sg ≠ 0) (h1 : W64 sg) (h2 : W64 rt) (h3 : W64 h) (hw : ∀ x, x ∈ bw → W64 x) (j : Nat) : (fAt sg rt h bw j).Fit := by
  unfold fAt Fe.new
  repeat' split
  · exact ⟨h0, h1, by show 0 < 255; omega, h3, h2, by simp, by dsimp only; omega⟩
  · exact ⟨h0, h1, by show 0 < 255; omega, h3, h2, by simp, by dsimp only; omega⟩
  · exact ⟨h0, h1, by show 0 < 255; omega, h3, h2, fun x hx => hw x (List.mem_of_mem_take hx), by dsimp only; omega⟩
  · exact ⟨h0, h1, by show 0 < 255; omega, h3, h2, hw, by dsimp only; omega⟩
theorem fAt_step (H : HV A sg h rt ha hb bw) (h64 : W64 h) (hb1 : 1 ≤ bw.length) {j : Nat} (hj : j < 2 + bw.length) : ∃ hb', HV ((fAt sg rt h bw j).step A).1 sg h rt ha hb' bw ∧ ((fAt sg rt h bw j).step A).2 = fAt sg rt h bw (j + 1) ∧ (j = 0 → hb' = h) ∧ (j ≠ 0 → hb' = hb) := by
  have ew : 5 * ((ofN 0 : Nat) : Int) + 4 = 4 := by rw [of0]; rfl
  by_cases e0 : j = 0
  · subst e0
    refine ⟨h, ?_, rfl, by omega, by omega⟩
    show HV (A.write sg (5 * ((ofN 0 : Nat) : Int) + 4) h).1 _ _ _ _ _ _
    rw [ew]
    exact H.putB h64
  by_cases e1 : j = 1
  · subst e1
    refine ⟨hb, H.read 0 0, ?_, by omega, by omega⟩
    show (if (A.read 0 0).2.1 = rt then (⟨2, sg, 0, rt, h, bw.length, [], 0⟩ : Fe).goOn else _) = _
    rw [H.root, if_pos rfl]
    unfold Fe.goOn
    rw [if_neg (by show ¬ (bw.length : Int) ≤ 0; omega)]
    unfold fAt
    rw [if_neg (by omega), if_neg (by omega), if_pos (by omega)]
    simp
  · have es : fAt sg rt h bw j = ⟨3, sg, 0, rt, h, bw.length, bw.take (j - 2), 0⟩ := by unfold fAt; rw [if_neg e0, if_neg e1, if_pos hj]
    have hl : (bw.take (j - 2)).length = j - 2 := by rw [List.length_take]; omega
    have er : (A.read h ((bw.take (j - 2)).length : Int)).2 = (bw.getD (j - 2) 0, 0) := by
      rw [H.word (i := ((bw.take (j - 2)).length : Int)) (by omega) (by rw [hl]; omega), hl]
      rfl
    rw [es]
    refine ⟨hb, H.read _ _, ?_, by omega, fun _ => rfl⟩
    show ((⟨3, sg, 0, rt, h, bw.length, bw.take (j - 2), 0⟩ : Fe).add (A.read h ((bw.take (j - 2)).length : Int)).2.1).goOn = _
    rw [er]
    have et : bw.take (j - 2) ++ [bw.getD (j - 2) 0] = bw.take (j - 1) := by
      have : j - 1 = j - 2 + 1 := by omega
      rw [this, List.take_add_one, List.getD_eq_getElem?_getD, List.getElem?_eq_getElem (by omega)]
      rfl
    show Fe.goOn ⟨3, sg, 0, rt, h, bw.length, bw.take (j - 2) ++ [bw.getD (j - 2) 0], 0⟩ = _
    rw [et]
    have hl2 : (bw.take (j - 1)).length = j - 1 := by rw [List.length_take]; omega
    unfold Fe.goOn
    dsimp only
    rw [hl2]
    by_cases e2 : j + 1 < 2 + bw.length
    · rw [if_neg (by omega)]
      unfold fAt
      rw [if_neg (by omega), if_neg (by omega), if_pos e2]
      rfl
    · rw [if_pos (by omega)]
      unfold fAt
      rw [if_neg (by omega), if_neg (by omega), if_neg e2, List.take_of_length_le (by omega)]
/-- A list of numbers as an argument. -/
def KindC (K : IntKind) (W : World) (v : Value) (z : Nat → Int) (m : Nat) : Prop := (∃ ao c, v = .slice ao m c) ∧ (m = 0 ∨ ∃ ga c, v = .slice (some ga) m c ∧ ∀ i, i < m → W.cell? (ga.add i) = some (.int K (z i)))
theorem add_0 (a : Addr) : a.add 0 = a := by
  unfold Addr.add; split
  · rfl
  · exact absurd rfl ‹_›
end Hld
end Go.Proofs.YtpajafecodkndaaGreat
