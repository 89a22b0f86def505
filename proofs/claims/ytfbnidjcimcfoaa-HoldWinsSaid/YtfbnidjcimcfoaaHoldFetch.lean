/- A fetch in memory, beside an arena and parts: made, stepped, asked. -/
import Derived.Test.YtfbnidjcimcfoaaHoldGrip
import Derived.Deep.CutBlock
import Derived.Deep.AppendSrc
set_option linter.unusedVariables false
set_option linter.unusedSimpArgs false
namespace Go.Proofs.Ytfbnidjcimcfoaa
namespace Hld
open Go.RowKit Go.Maps Arn Pac Clm Cnt Sta

variable {w W W' : World} {b k n r : Nat} {A : Ar} {ps : List Part} {C : Fe} {g v : Value} {base : Nat}
/-! ### words told -/
/-- A clone of words, nil or not. -/
def WClone (w : World) (l : List Int) (e : Ending) (w' : World) : Prop :=
  ∃ ao c, e = .returned (.slice ao l.length c) ∧ WordsAt w' (.slice ao l.length c) l ∧ (∀ k, (Value.slice ao l.length c).ownBlock = some k → w.heap.size ≤ k ∧ k < w'.heap.size) ∧ Frm.Turn [] w w'
theorem wclone_any (v : Value) (l : List Int) (w : World) (h : WordsAt w v l) (hn : l.length ≤ 65536) : Calls Try.prog 33 #[v] w (WClone w l) := by
  rcases h with ⟨rfl, rfl⟩ | ⟨a, c, rfl, h⟩
  · refine (uclone_nil w).mono ?_
    rintro e w' ⟨rfl, rfl⟩
    exact ⟨none, 0, rfl, .inl ⟨rfl, rfl⟩, fun k hk => by simp [Value.ownBlock] at hk, Frm.Turn.refl [] _⟩
  · refine (uclone_some a c l w h hn).mono ?_
    rintro e w' ⟨g', c', rfl, h1, h2, h3⟩
    refine ⟨some ⟨g', 0, none⟩, c', rfl, .own h1, fun k hk => ?_, h3⟩
    cases hk
    exact ⟨h2, (h1.lt g' rfl).2⟩
theorem words_row {w : World} {base : Nat} {v : Value} {l : List Int} (h : w.ownsRow base 26 1 v l.length (u64s l)) : WordsAt w v l := by
  have h0 : w.ownsRow 0 26 1 v l.length (u64s l) := ⟨h.1, h.2.imp id (fun ⟨g, c, cur, a, _, r⟩ => ⟨g, c, cur, a, Nat.zero_le _, r⟩)⟩
  rcases h0.2 with ⟨rfl, e⟩ | ⟨g, c, cur, rfl, _⟩
  · exact .inl ⟨rfl, List.length_eq_zero_iff.1 e⟩
  · exact .own h0
/-! ### a fetch -/
def feL (b : Nat) (g v : Value) (C : Fe) : List Value := [g, .pointer (some ⟨b, 0, none⟩), .int .u64 C.seg, .int .i64 C.slot, .int .u64 C.root, .int .u64 C.blk, .int .i64 C.n, v, .int .i64 C.out]
def nxF (r st : Nat) : Value :=
  if st = 1 then .func (.func 37) #[.pointer (some ⟨r, 0, none⟩)] #[]
  else if st = 2 then .func (.func 55) #[.pointer (some ⟨r, 0, none⟩)] #[]
  else if st = 3 then .func (.func 73) #[.pointer (some ⟨r, 0, none⟩)] #[]
  else .nilFunc
theorem nxF_fn (r st : Nat) : IsFn (nxF r st) := by
  unfold nxF
  repeat' split
  all_goals first | exact isFn_func _ _ _ | exact isFn_nil
def feB (r b : Nat) (g v : Value) (C : Fe) : Part := bkP r (.cells (feL b g v C).toArray 88)
def feP (r b : Nat) (v : Value) (C : Fe) : Part := feB r b (nxF r C.st) v C
theorem entersF_hold : Enters Try.prog 37 := enters_of Try.func37 (by kernel_rfl) rfl
theorem entersF_check : Enters Try.prog 55 := enters_of Try.func55 (by kernel_rfl) rfl
theorem entersF_read : Enters Try.prog 73 := enters_of Try.func73 (by kernel_rfl) rfl
theorem fe_cells (S : Stash w b A k ps W) (hm : feB r b g v C ∈ ps) : W.cell? ⟨r, 0, none⟩ = some g ∧ W.cell? ⟨r, 1, none⟩ = some (.pointer (some ⟨b, 0, none⟩)) ∧ W.cell? ⟨r, 2, none⟩ = some (.int .u64 C.seg) ∧ W.cell? ⟨r, 3, none⟩ = some (.int .i64 C.slot) ∧ W.cell? ⟨r, 4, none⟩ = some (.int .u64 C.root) ∧
    W.cell? ⟨r, 5, none⟩ = some (.int .u64 C.blk) ∧ W.cell? ⟨r, 6, none⟩ = some (.int .i64 C.n) ∧ W.cell? ⟨r, 7, none⟩ = some v ∧ W.cell? ⟨r, 8, none⟩ = some (.int .i64 C.out) :=
  ⟨cell_h S hm rfl, cell_h S hm rfl, cell_h S hm rfl, cell_h S hm rfl, cell_h S hm rfl, cell_h S hm rfl, cell_h S hm rfl, cell_h S hm rfl, cell_h S hm rfl⟩
set_option maxRecDepth 100000 in
theorem fend_any (S : Stash w b A k (feB r b g v C :: ps) W) (o : Int) :
    Calls Try.prog 65 #[.pointer (some ⟨r, 0, none⟩), .int .i64 o] W fun e w' => e = .returned (.tuple #[]) ∧ Stash w b A k (feB r b .nilFunc v { C with out := o } :: ps) w' := by
  have hc8 := (fe_cells S (List.mem_cons_self ..)).2.2.2.2.2.2.2.2
  have hf8 := thaw_h (i := 8) S (List.mem_cons_self ..)
  have S1 : Stash w b A k (feB r b g v { C with out := o } :: ps) (W.setCell ⟨r, 8, none⟩ (.int .i64 o)) := poke_h (i := 8) (.int .i64 o) S
  have HE := Lib.hid (end_h S1)
  clear S S1
  go_enter Try.func65, Try.ntmps65
  go_wp2_with (go_at_call 69; (with_reducible refine (HE.out).mono ?_); rintro e w3 ⟨rfl, hS⟩; have HS3 := Lib.hid hS; clear hS)
  go_end0
  exact ⟨rfl, HS3.out⟩
theorem slice_form (S : Stash w b A k ps W) (hm : rwP base v C.ws ∈ ps) : ∃ ao c, v = .slice ao C.ws.length c := by
  have h : W.ownsRow base 26 1 v C.ws.length (u64s C.ws) := S.on _ hm
  exact Frm.row_form h
set_option maxRecDepth 100000 in
set_option maxHeartbeats 1000000 in
theorem goOnF_any (S : Stash w b A k (feB r b g v C :: ps) W) (hm : rwP base v C.ws ∈ ps) :
    Calls Try.prog 66 #[.pointer (some ⟨r, 0, none⟩)] W fun e w' => e = .returned (.tuple #[]) ∧ Stash w b A k (feP r b v C.goOn :: ps) w' := by
  obtain ⟨ao, c, rfl⟩ := slice_form S (List.mem_cons_of_mem _ hm)
  obtain ⟨c0, c1, c2, c3, c4, c5, c6, c7, c8⟩ := fe_cells S (List.mem_cons_self ..)
  have HD := Lib.hid ((Frm.Turn.refl [] W).drew)
  have S1 := S.still HD.out
  have hmk := hmf
  unfold Fe.goOn
  by_cases hle : C.n ≤ (C.ws.length : Int)
  · rw [if_pos hle]
    have HE := Lib.hid (fend_any S1 1)
    clear S S1 c0 c1 c2 c3 c4 c5 c8 HD hm
    go_enter Try.func66, Try.ntmps66
    go_wp2_with fail
    go_region
    all_goals go_wp2_with (go_at_call 65; (with_reducible refine (HE.out).mono ?_); rintro e w1 ⟨rfl, hS⟩; have HS3 := Lib.hid hS; clear hS)
    all_goals first | go_end0 | (refine bodyPost_ret (results_none rfl _ _ _) rfl ?_)
    all_goals exact ⟨rfl, HS3.out⟩
  · rw [if_neg hle]
    have HE := Lib.hid (to_h S1 (v := .func (.func 73) #[.pointer (some ⟨r, 0, none⟩)] #[]) (isFn_func _ _ _))
    clear S S1 c0 c1 c2 c3 c4 c5 c8 HD hm
    go_enter Try.func66, Try.ntmps66
    go_wp2_with fail
    go_region
    all_goals go_wp2_with (go_at_call 35; (with_reducible refine (HE.out).mono ?_); rintro e w1 ⟨rfl, hS⟩; have HS3 := Lib.hid hS; clear hS)
    all_goals first | go_end0 | (refine bodyPost_ret (results_none rfl _ _ _) rfl ?_)
    all_goals exact ⟨rfl, HS3.out⟩
set_option maxRecDepth 100000 in
theorem holdF_any (S : Stash w b A k (feB r b g v C :: ps) W) (hk : k ≤ 10000000) (F : C.Fit) :
    Calls Try.prog 37 #[.pointer (some ⟨r, 0, none⟩)] W fun e w' => e = .returned (.tuple #[]) ∧ Stash w b (A.write C.seg (5 * (ofN C.slot : Int) + 4) C.blk).1 (k + 1) (feB r b (nxF r 2) v C :: ps) w' := by
  obtain ⟨c0, c1, c2, c3, c4, c5, c6, c7, c8⟩ := fe_cells S (List.mem_cons_self ..)
  have HW := Lib.hid (fun W' (hT : Frm.Turn [] W W') => hwrite_any (f := 4) (v := C.blk) (S.still hT) hk (hT.cell c1 (by simp)) (hT.cell c2 (by simp)) (hT.cell c3 (by simp)) F.slot F.seg F.seg64 (.inr rfl) F.blk)
  have hmk := hmf
  have HD := Lib.hid ((Frm.Turn.refl [] W).drew)
  have HTO : Hid (∀ w1 A' k', Stash w b A' k' (feB r b g v C :: ps) w1 → Calls Try.prog 35 #[.pointer (some ⟨r, 0, none⟩), .func (.func 55) #[.pointer (some ⟨r, 0, none⟩)] #[]] w1 fun e w' => e = .returned (.tuple #[]) ∧ Stash w b A' k' (feB r b (nxF r 2) v C :: ps) w') := Lib.hid (fun w1 A' k' hS => to_h hS (isFn_func _ _ _))
  clear S c0 c1 c2 c3 c4 c6 c7 c8
  generalize (A.write C.seg (5 * (ofN C.slot : Int) + 4) C.blk).1 = A' at HW ⊢
  go_enter Try.func37, Try.ntmps37
  go_wp2_with fail
  go_region_with (go_at_call 54; (with_reducible refine (HW.out _ HD.out).mono ?_); rintro e w2 ⟨rfl, hS⟩; have HT2 := Lib.hid (HTO.out _ _ _ hS); clear hS)
  all_goals go_wp2_with (go_at_call 35; (with_reducible refine (HT2.out).mono ?_); rintro e w3 ⟨rfl, hS⟩; have HS3 := Lib.hid hS; clear hS)
  all_goals go_end0
  all_goals exact ⟨rfl, HS3.out⟩
set_option maxRecDepth 100000 in
set_option maxHeartbeats 1000000 in
theorem checkF_any (S : Stash w b A k (feB r b g v C :: ps) W) (hm : rwP base v C.ws ∈ ps) (hk : k ≤ 10000000) :
    Calls Try.prog 55 #[.pointer (some ⟨r, 0, none⟩)] W fun e w' => e = .returned (.tuple #[]) ∧ Stash w b (A.read 0 0).1 (k + 1) (feP r b v (if (A.read 0 0).2.1 = C.root then C.goOn else { C with out := 2, st := 0 }) :: ps) w' := by
  obtain ⟨c0, c1, c2, c3, c4, c5, c6, c7, c8⟩ := fe_cells S (List.mem_cons_self ..)
  have HD := Lib.hid ((Frm.Turn.refl [] W).drew)
  have HR := Lib.hid (rootNow_any (S.still HD.out) hk (HD.out.cell c1 (by simp)))
  have c4' := HD.out.cell c4 (by simp)
  have HGO : Hid (∀ w1 A' k', Stash w b A' k' (feB r b g v C :: ps) w1 → Calls Try.prog 66 #[.pointer (some ⟨r, 0, none⟩)] w1 fun e w' => e = .returned (.tuple #[]) ∧ Stash w b A' k' (feP r b v C.goOn :: ps) w') := Lib.hid (fun w1 A' k' hS => goOnF_any hS hm)
  have HEN : Hid (∀ w1 A' k', Stash w b A' k' (feB r b g v C :: ps) w1 → Calls Try.prog 65 #[.pointer (some ⟨r, 0, none⟩), .int .i64 2] w1 fun e w' => e = .returned (.tuple #[]) ∧ Stash w b A' k' (feP r b v { C with out := 2, st := 0 } :: ps) w') := Lib.hid (fun w1 A' k' hS => fend_any hS 2)
  have HC4 : Hid (∀ w1 A' k', Stash w b A' k' (feB r b g v C :: ps) w1 → w1.cell? ⟨r, 4, none⟩ = some (.int .u64 C.root)) := Lib.hid (fun w1 A' k' hS => (fe_cells hS (List.mem_cons_self ..)).2.2.2.2.1)
  clear S c0 c1 c2 c3 c4 c5 c6 c7 c8 hm
  generalize (A.read 0 0).1 = A' at HR ⊢
  generalize (A.read 0 0).2.1 = x at HR ⊢
  by_cases he : x = C.root
  · rw [if_pos he]
    have hb : (x != C.root) = false := by simpa using he
    clear he
    go_enter Try.func55, Try.ntmps55
    go_wp2_with fail
    go_region_with (go_at_call 52; (with_reducible refine (HR.out).mono ?_); rintro e w1 ⟨rfl, hS⟩; have d4 := HC4.out _ _ _ hS; have HE := Lib.hid (HGO.out _ _ _ hS); clear hS)
    all_goals go_wp2_with (go_at_call 66; (with_reducible refine (HE.out).mono ?_); rintro e w3 ⟨rfl, hS⟩; have HS3 := Lib.hid hS; clear hS)
    all_goals first | go_end0 | (refine bodyPost_ret (results_none rfl _ _ _) rfl ?_)
    all_goals exact ⟨rfl, HS3.out⟩
  · rw [if_neg he]
    have hb : (x != C.root) = true := by simpa using he
    clear he
    go_enter Try.func55, Try.ntmps55
    go_wp2_with fail
    go_region_with (go_at_call 52; (with_reducible refine (HR.out).mono ?_); rintro e w1 ⟨rfl, hS⟩; have d4 := HC4.out _ _ _ hS; have HE := Lib.hid (HEN.out _ _ _ hS); clear hS)
    all_goals go_wp2_with (go_at_call 65; (with_reducible refine (HE.out).mono ?_); rintro e w3 ⟨rfl, hS⟩; have HS3 := Lib.hid hS; clear hS)
    all_goals first | go_end0 | (refine bodyPost_ret (results_none rfl _ _ _) rfl ?_)
    all_goals exact ⟨rfl, HS3.out⟩
/-- A word is put behind the others. -/
theorem row_more {W1 W3 : World} {v' : Value} {xs : List Int} {x : Int} {p : Part} (S : Stash w b A k (p :: rwP w.heap.size v xs :: ps) W) (h1 : Frm.Turn [] W W1) (h3 : W1.grownBy W3 v.ownBlock) (hl : v'.ownBlock = v.ownBlock ∨ v'.ownBlock = some W1.heap.size) (ho : W3.ownsRow w.heap.size 26 1 v' (xs.length + 1) (u64s xs ++ [.int .u64 x])) :
    Stash w b A k (p :: rwP w.heap.size v' (xs ++ [x]) :: ps) W3 := by
  have S1 := (S.still h1).perm (List.Perm.swap ..)
  have hT3 := Frm.Turn.of_grown h3
  have he : u64s xs ++ [.int .u64 x] = u64s (xs ++ [x]) := by simp [u64s]
  have hlen : (xs ++ [x]).length = xs.length + 1 := by simp
  rw [he, ← hlen] at ho
  refine Stash.perm (S1.act (p' := rwP w.heap.size v' (xs ++ [x])) hT3 (fun q hq => hq) (rwP_fra _ _ _) ho (fun q hq => ?_) (by simp [rwP]) (by simp [rwP])) (List.Perm.swap ..)
  have hq' : v'.ownBlock = some q := by simpa [rwP] using hq
  rcases hl with e | e
  · left; rw [e] at hq'; simp [rwP, hq']
  · right
    rw [e] at hq'; cases hq'
    exact ⟨Nat.le_refl _, (ho.lt _ e).2⟩
set_option maxRecDepth 100000 in
set_option maxHeartbeats 4000000 in
theorem readF_any (S : Stash w b A k (feB r b g v C :: rwP w.heap.size v C.ws :: ps) W) (hk : k ≤ 10000000) (F : C.Fit) (hl : C.ws.length ≤ 60000) :
    Calls Try.prog 73 #[.pointer (some ⟨r, 0, none⟩)] W fun e w' => e = .returned (.tuple #[]) ∧ ∃ v', Stash w b (A.read C.blk C.ws.length).1 (k + 1) (feP r b v' (C.add (A.read C.blk C.ws.length).2.1).goOn :: rwP w.heap.size v' (C.add (A.read C.blk C.ws.length).2.1).ws :: ps) w' := by
  obtain ⟨ao, c, rfl⟩ := slice_form S (List.mem_cons_of_mem _ (List.mem_cons_self ..))
  obtain ⟨c0, c1, c2, c3, c4, c5, c6, c7, c8⟩ := fe_cells S (List.mem_cons_self ..)
  have HD := Lib.hid ((Frm.Turn.refl [] W).drew)
  have HRD := Lib.hid (read_h (S.still HD.out) hk C.blk C.ws.length F.blk (wf_small (by omega) (by omega)))
  have hx64 := read_wr A S.kin.ok C.blk C.ws.length
  obtain ⟨i0, hi, hz0, hz1, hz2⟩ := info_parts info_u64
  have HLW : Hid (C.ws.length ≤ 60000) := Lib.hid hl
  have HL1 : Hid (∀ W', (Frm.Turn [] W W' → True)) := Lib.hid (fun _ _ => trivial)
  have n0 : (0 : Int) ≤ (C.ws.length : Int) := by omega
  have n1 : (C.ws.length : Int) ≤ 60000 := by omega
  clear S c0 c2 c3 c4 c6 c8
  generalize hA' : (A.read C.blk C.ws.length).1 = A' at HRD ⊢
  generalize hx : (A.read C.blk C.ws.length).2.1 = x at HRD hx64 ⊢
  clear hA' hx hl
  go_enter Try.func73, Try.ntmps73
  go_wp2_with fail
  go_cut [2] (fun s2 W2 => s2 = .int .u64 x ∧ Stash w b A' (k + 1) (feB r b g (.slice ao C.ws.length c) C :: rwP w.heap.size (.slice ao C.ws.length c) C.ws :: ps) W2)
  case first =>
    go_region_with (go_at_call 13; (with_reducible refine (HRD.out).mono ?_); rintro e w1 ⟨rfl, hS⟩; have HS1 := Lib.hid hS; clear hS)
    all_goals go_wp2_with fail
    all_goals go_meet
    all_goals exact ⟨rfl, HS1.out⟩
  case rest =>
    obtain ⟨rfl, hS⟩ := hcut
    obtain ⟨-, -, -, -, -, -, -, d7, -⟩ := fe_cells hS (List.mem_cons_self ..)
    have hrow : wc.ownsRow w.heap.size 26 1 (.slice ao C.ws.length c) C.ws.length (u64s C.ws) := hS.on (rwP w.heap.size (.slice ao C.ws.length c) C.ws) (by simp)
    have HRW := Lib.hid (Frm.owns_turn hrow ((Frm.Turn.refl [] wc).alloc (.cells #[.int .u64 x] 26)) (by simp))
    have HB8 : Hid (w.heap.size ≤ (wc.alloc (.cells #[.int .u64 x] 26)).heap.size) := Lib.hid (by have := hS.kin.turn.size; simp; omega)
    have HMO := Lib.hid (fun (W3 : World) (v' : Value) => row_more (v' := v') (W3 := W3) (x := x) hS ((Frm.Turn.refl [] wc).alloc (.cells #[.int .u64 x] 26)))
    have HTA := Lib.hid ((Frm.Turn.refl [] wc).alloc (.cells #[.int .u64 x] 26))
    clear hS hrow c1 c5 c7
    go_wp2_with (first
      | (at_builtin; go_must (refine wpList_append_own_at _ rfl (.tmp 27) (.tmp 29) 22 rfl w.heap.size 26 i0 (.int .u64 0) 1 8 under_u64s hi hz0 hz1 hz2 rfl (by decide) (.slice ao C.ws.length c) C.ws.length (u64s C.ws) rfl HRW.out ⟨wc.heap.size, 0, none⟩ 1 1 [.int .u64 x] rfl rfl (Dr.one_new _ _ _) (by simp [Value.oneCell']) (by unfold maxLen; omega) (by omega) HB8.out ?_); intro v9 w9 hown9 hg9 _ hl9; obtain ⟨va, vc, rfl⟩ := Frm.row_form hown9; have hS9 := HMO.out w9 (.slice va (C.ws.length + 1) vc) hg9 hl9 hown9; obtain ⟨-, -, -, -, -, -, -, d79, -⟩ := fe_cells hS9 (List.mem_cons_self ..); have f79 := thaw_h (i := 7) hS9 (List.mem_cons_self ..); have HGO := Lib.hid (goOnF_any (C := C.add x) (g := g) (show Stash w b A' (k + 1) (feB r b g (.slice va (C.ws.length + 1) vc) (C.add x) :: rwP w.heap.size (.slice va (C.ws.length + 1) vc) (C.add x).ws :: ps) (w9.setCell ⟨r, 7, none⟩ (.slice va (C.ws.length + 1) vc)) from poke_h (i := 7) (.slice va (C.ws.length + 1) vc) hS9) (base := w.heap.size) (List.mem_cons_self ..)); clear hown9 hg9 hl9 hS9)
      | (go_at_call 66; (with_reducible refine (HGO.out).mono ?_); rintro e w3 ⟨rfl, hS⟩; have HS3 := Lib.hid hS; clear hS))
    go_end0
    exact ⟨rfl, _, HS3.out⟩
theorem fgear_any (S : Stash w b A k (feP r b v C :: rwP w.heap.size v C.ws :: ps) W) (hk : k ≤ 10000000) (F : C.Fit) (hl : C.ws.length ≤ 60000) :
    Calls Try.prog 38 #[.pointer (some ⟨r, 0, none⟩)] W fun e w' => e = .returned (.tuple #[]) ∧ ∃ v', Stash w b (C.step A).1 (k + 1) (feP r b v' (C.step A).2 :: rwP w.heap.size v' (C.step A).2.ws :: ps) w' := by
  refine gstep_any r (nxF r C.st) W (fe_cells S (List.mem_cons_self ..)).1 ?_
  unfold Fe.step
  split
  · rename_i h
    rw [show nxF r C.st = .func (.func 37) #[.pointer (some ⟨r, 0, none⟩)] #[] by unfold nxF; rw [if_pos h]]
    exact call_fn #[.pointer (some ⟨r, 0, none⟩)] #[] W entersF_hold ((holdF_any S hk F).mono fun e w' ⟨he, hS⟩ => ⟨he, v, hS⟩)
  split
  · rename_i h0 h
    rw [show nxF r C.st = .func (.func 55) #[.pointer (some ⟨r, 0, none⟩)] #[] by unfold nxF; rw [if_neg h0, if_pos h]]
    refine call_fn #[.pointer (some ⟨r, 0, none⟩)] #[] W entersF_check ((checkF_any S (base := w.heap.size) (List.mem_cons_self ..) hk).mono fun e w' ⟨he, hS⟩ => ⟨he, v, ?_⟩)
    have hws : (if (A.read 0 0).2.1 = C.root then C.goOn else { C with out := 2, st := 0 }).ws = C.ws := by
      split
      · unfold Fe.goOn; split <;> rfl
      · rfl
    dsimp only
    rw [hws]
    exact hS
  split
  · rename_i h0 h1 h
    rw [show nxF r C.st = .func (.func 73) #[.pointer (some ⟨r, 0, none⟩)] #[] by unfold nxF; rw [if_neg h0, if_neg h1, if_pos h]]
    refine call_fn #[.pointer (some ⟨r, 0, none⟩)] #[] W entersF_read ((readF_any S hk F hl).mono fun e w' ⟨he, v', hS⟩ => ⟨he, v', ?_⟩)
    have hws : (C.add (A.read C.blk C.ws.length).2.1).goOn.ws = (C.add (A.read C.blk C.ws.length).2.1).ws := by
      unfold Fe.goOn; split <;> rfl
    dsimp only
    rw [hws]
    exact hS
  · rename_i h0 h1 h2
    rw [show nxF r C.st = .nilFunc by unfold nxF; rw [if_neg h0, if_neg h1, if_neg h2]]
    refine (call_none W).mono ?_
    rintro e w' ⟨he, rfl⟩
    exact ⟨he, v, Sta_more S (by omega)⟩
theorem fstep_h (S : Stash w b A k (feP r b v C :: rwP w.heap.size v C.ws :: ps) W) (hk : k ≤ 10000000) (F : C.Fit) (hl : C.ws.length ≤ 60000) :
    Calls Try.prog 11 #[.pointer (some ⟨r, 0, none⟩)] W fun e w' => e = .returned (.tuple #[]) ∧ ∃ v', Stash w b (C.step A).1 (k + 1) (feP r b v' (C.step A).2 :: rwP w.heap.size v' (C.step A).2.ws :: ps) w' := by
  have H := Lib.hid (fgear_any S hk F hl)
  generalize (C.step A).1 = A' at H ⊢
  generalize (C.step A).2 = C' at H ⊢
  clear S F hl
  go_enter Try.func11, Try.ntmps11
  go_wp2_with (go_at_call 38; (with_reducible refine (H.out).mono ?_); rintro e w1 ⟨rfl, ha⟩)
  go_end0
  exact ⟨rfl, ha⟩
theorem fout_h (S : Stash w b A k ps W) (hm : feB r b g v C ∈ ps) : Calls Try.prog 16 #[.pointer (some ⟨r, 0, none⟩)] W fun e w' => e = .returned (.int .i64 C.out) ∧ W = w' := by
  obtain ⟨c0, c1, c2, c3, c4, c5, c6, c7, c8⟩ := fe_cells S hm
  clear S c0 c1 c2 c3 c4 c5 c6 c7
  generalize C.out = x at c8 ⊢
  go_enter Try.func16, Try.ntmps16
  go_wp2
  go_ret
  exact ⟨rfl, rfl⟩
theorem fwords_h (S : Stash w b A k ps W) (hm : feB r b g v C ∈ ps) (hm2 : rwP base v C.ws ∈ ps) (hl : C.ws.length ≤ 60000) : Calls Try.prog 18 #[.pointer (some ⟨r, 0, none⟩)] W (WClone W C.ws) := by
  obtain ⟨ao, c, rfl⟩ := slice_form S hm2
  obtain ⟨c0, c1, c2, c3, c4, c5, c6, c7, c8⟩ := fe_cells S hm
  have hrow : W.ownsRow base 26 1 (.slice ao C.ws.length c) C.ws.length (u64s C.ws) := S.on _ hm2
  have H := Lib.hid (wclone_any _ C.ws W (words_row hrow) (by omega))
  clear S c0 c1 c2 c3 c4 c5 c6 c8 hrow hl
  go_enter Try.func18, Try.ntmps18
  go_wp2_with (go_at_call 33; (with_reducible refine (H.out).mono ?_); rintro e w1 ⟨ao2, c2, rfl, h⟩; have H1 := Lib.hid h; clear h)
  go_ret
  exact ⟨ao2, c2, rfl, H1.out⟩
theorem idle_nxF (r st : Nat) (h : st ≤ 3) : idle (nxF r st) = decide (st = 0) := by
  have : st = 0 ∨ st = 1 ∨ st = 2 ∨ st = 3 := by omega
  rcases this with rfl | rfl | rfl | rfl <;> rfl
theorem fdone_h (S : Stash w b A k ps W) (hm : feP r b v C ∈ ps) (hst : C.st ≤ 3) : Calls Try.prog 26 #[.pointer (some ⟨r, 0, none⟩)] W fun e w' => e = .returned (.bool (decide (C.st = 0))) ∧ W = w' := by
  have h1 := gdone_any r _ W (nxF_fn r C.st) (fe_cells S hm).1
  rw [idle_nxF r _ hst] at h1
  have H := Lib.hid h1
  clear S hm h1
  generalize decide (C.st = 0) = z at H ⊢
  go_enter Try.func26, Try.ntmps26
  go_wp2_with (go_at_call 44; (with_reducible refine (H.out).mono ?_); rintro e w1 ⟨rfl, rfl⟩)
  go_ret
  exact ⟨rfl, rfl⟩
set_option maxRecDepth 100000 in
set_option maxHeartbeats 1000000 in
theorem fnew_h (S : Stash w b A k ps W) (seg : Int) (s : Nat) (rt blk n : Int) :
    Calls Try.prog 10 #[.pointer (some ⟨b, 0, none⟩), .agg #[.int .u64 seg, .int .i64 s], .int .u64 rt, .int .u64 blk, .int .i64 n] W fun e w' => ∃ r, e = .returned (.pointer (some ⟨r, 0, none⟩)) ∧ Stash w b A k (feP r b (.slice none 0 0) (Fe.new seg s rt blk n) :: rwP w.heap.size (.slice none 0 0) [] :: ps) w' := by
  have HA0 := World.alloc_heap_new W (.cells #[.int .u64 seg, .int .i64 s] 36)
  have hT0 := (Frm.Turn.refl [] W).alloc (.cells #[.int .u64 seg, .int .i64 s] 36)
  have S0 : Stash w b A k (rwP w.heap.size (.slice none 0 0) [] :: ps) _ := S.add hT0 (rwP_fra _ _ _) (World.ownsRow_nil _ _ _ _) (by simp [rwP, Value.ownBlock]) (by simp [rwP, Value.ownBlock]) (by simp [rwP, Value.ownBlock])
  have S1 := add_h S0 (.cells (.nilFunc :: [.pointer (some ⟨b, 0, none⟩), .int .u64 seg, .int .i64 s, .int .u64 rt, .int .u64 blk, .int .i64 n, .slice none 0 0, .int .i64 0]).toArray 88) (World.alloc_heap_new _ _)
  rw [World.size_alloc] at S1
  have HTO := Lib.hid (to_h (v := .func (.func 37) #[.pointer (some ⟨W.heap.size + 1, 0, none⟩)] #[]) S1 (isFn_func _ _ _))
  have p0 := (Frm.cell_row _ _ 0 _ _ _ HA0).trans rfl
  have p1 := (Frm.cell_row _ _ 1 _ _ _ HA0).trans rfl
  have hmk := hmf
  clear S S0 S1 HA0 hT0
  go_enter Try.func10, Try.ntmps10
  go_wp2_with (go_at_call 35; (with_reducible refine (HTO.out).mono ?_); rintro e w1 ⟨rfl, hS⟩; have HS1 := Lib.hid hS; clear hS)
  go_ret
  exact ⟨_, rfl, HS1.out⟩
end Hld
end Go.Proofs.Ytfbnidjcimcfoaa
