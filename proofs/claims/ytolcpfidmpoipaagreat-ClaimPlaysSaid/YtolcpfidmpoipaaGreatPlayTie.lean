/- same of law 11: a claim tells what the document's does. -/
/- The document's claim against the claim: both have ended, or none. -/
import Derived.Test.YtolcpfidmpoipaaGreatRunMem
import Derived.Test.YtolcpfidmpoipaaGreatClaimKin
import Derived.BigQuiet
import Derived.Deep.QuietTactic
import Derived.Test.YtolcpfidmpoipaaGreatPlayMem
set_option linter.unusedVariables false
set_option linter.unusedSimpArgs false
namespace Go.Proofs.YtolcpfidmpoipaaGreat
namespace Clm
open Go.RowKit Go.Maps Arn Pac Evn

variable {W W' : World} {r b : Nat} {C : Cl} {sg s ld er : Int} {own stop : Bool}
theorem quiet_at {P : Program} {f : FuncId} {args : Array Value} {w : World} {n : Nat} {v : Value}
    (h : Calls P f args (w.drewN n) fun e w' => e = .returned v ∧ w.drewN n = w') : Calls P f args (w.drewN n) fun e w'' => e = .returned v ∧ ∃ m, w'' = w.drewN m :=
  h.mono fun _ _ ⟨he, hm⟩ => ⟨he, n, hm.symm⟩
theorem got_cells {W : World} {k : Nat} {t : TypeId} {sg s ld er : Int} {own : Bool} (h : W.heap[k]? = some (.cells (gotAll sg s own ld er) t (0, 0))) :
    W.cell? ⟨k, 0, none⟩ = some (.int .u64 sg) ∧ W.cell? ⟨k, 1, none⟩ = some (.int .i64 s) ∧ W.cell? ⟨k, 2, none⟩ = some (.bool own) ∧ W.cell? ⟨k, 3, none⟩ = some (.int .u64 ld) ∧ W.cell? ⟨k, 4, none⟩ = some (.int .i64 er) :=
  ⟨(Frm.cell_row _ _ 0 _ _ _ h).trans rfl, (Frm.cell_row _ _ 1 _ _ _ h).trans rfl, (Frm.cell_row _ _ 2 _ _ _ h).trans rfl, (Frm.cell_row _ _ 3 _ _ _ h).trans rfl, (Frm.cell_row _ _ 4 _ _ _ h).trans rfl⟩
set_option maxRecDepth 100000 in
set_option maxHeartbeats 4000000 in
/-- .. with nothing private. -/
theorem same_none (hc : ClAt W r b C) (h5 : C.st ≤ 5) (h1 : C.own = own) (h2 : own = true → C.seg = sg ∧ (C.slot : Int) = s) (h3 : C.laid = 0) (h4 : C.err = er) (h6 : stop = !decide (C.st = 0)) :
    Calls Tryz.prog 15 #[.pointer (some ⟨r, 0, none⟩), .agg (gotAll sg s own 0 er), .bool stop] W fun e w' => e = .returned (.bool true) ∧ Frm.Turn [] W w' := by
  have HD := Lib.hid (fun W' (hT : Frm.Turn [] W W') => And.intro (done_any (hc.turn hT (by simp)) h5) (err_any (hc.turn hT (by simp))))
  have HA : Hid (∀ o, Frm.Turn [] W (W.alloc o)) := Lib.hid (fun o => (Frm.Turn.refl [] W).alloc o)
  have HP := Lib.hid (fun o => place_any (hc.turn (HA.out o) (by simp)))
  have HN := Lib.hid (fun W' (hT : Frm.Turn [] W W') => private_none (hc.turn hT (by simp)) h3)
  have HB := Lib.hid (World.alloc_heap_new W (.cells (gotAll sg s own 0 er) 56))
  rw [h1] at HP
  rw [h4] at HD
  have h2' : (if own then C.seg else 0) = (if own then sg else 0) ∧ (if own then (C.slot : Int) else 0) = (if own then s else 0) := by
    cases own with
    | false => exact ⟨rfl, rfl⟩
    | true => obtain ⟨e1, e2⟩ := h2 rfl; exact ⟨e1, e2⟩
  rw [h2'.1, h2'.2] at HP
  clear hc h5 h1 h2 h3 h4 h2'
  generalize decide (C.st = 0) = z at HD h6
  subst h6
  have HGC := Lib.hid (fun W' (hT : Frm.Turn [] (W.alloc (.cells (gotAll sg s own 0 er) 56)) W') => got_cells (hT.keep HB.out (by simp)))
  unfold gotAll at HGC ⊢
  cases own <;> cases z
  all_goals
    go_enter Tryz.func15, Tryz.ntmps15
    go_upto_region 3 with (first
      | (go_at_call 8; (with_reducible refine (HP.out _).mono ?_); rintro e w4 ⟨rfl, hT⟩; have HT4 := Lib.hid hT; clear hT)
      | (go_at_call 18; (with_reducible refine (HN.out _ (((HA.out _).trans HT4.out (by simp)).alloc _)).mono ?_); rintro e w5 ⟨rfl, rfl⟩))
  · have hn := World.alloc_heap_new w4 (.cells #[.int .u64 0, .int .i64 0] 45)
    obtain ⟨g0, g1, g2, g3, g4⟩ := HGC.out _ (HT4.out.alloc (.cells #[.int .u64 0, .int .i64 0] 45))
    have HT5 := Lib.hid (((HA.out _).trans HT4.out (by simp)).alloc (.cells #[.int .u64 0, .int .i64 0] 45))
    have p0 := (Frm.cell_row _ _ 0 _ _ _ hn).trans rfl
    have p1 := (Frm.cell_row _ _ 1 _ _ _ hn).trans rfl
    clear hn HP HN HB HGC
    go_quiet (first
      | (go_at_call 17; exact quiet_at (HD.out _ (HT5.out.drewN _)).2)
      | (go_at_call 7; exact quiet_at (HD.out _ (HT5.out.drewN _)).1))
    go_wp2
    go_ret
    exact ⟨rfl, by first | exact HT5.out.drewN _ | exact HT5.out.drew⟩
  · have hn := World.alloc_heap_new w4 (.cells #[.int .u64 0, .int .i64 0] 45)
    obtain ⟨g0, g1, g2, g3, g4⟩ := HGC.out _ (HT4.out.alloc (.cells #[.int .u64 0, .int .i64 0] 45))
    have HT5 := Lib.hid (((HA.out _).trans HT4.out (by simp)).alloc (.cells #[.int .u64 0, .int .i64 0] 45))
    have p0 := (Frm.cell_row _ _ 0 _ _ _ hn).trans rfl
    have p1 := (Frm.cell_row _ _ 1 _ _ _ hn).trans rfl
    clear hn HP HN HB HGC
    go_quiet (first
      | (go_at_call 17; exact quiet_at (HD.out _ (HT5.out.drewN _)).2)
      | (go_at_call 7; exact quiet_at (HD.out _ (HT5.out.drewN _)).1))
    go_wp2
    go_ret
    exact ⟨rfl, by first | exact HT5.out.drewN _ | exact HT5.out.drew⟩
  · have hn := World.alloc_heap_new w4 (.cells #[.int .u64 sg, .int .i64 s] 45)
    obtain ⟨g0, g1, g2, g3, g4⟩ := HGC.out _ (HT4.out.alloc (.cells #[.int .u64 sg, .int .i64 s] 45))
    have HT5 := Lib.hid (((HA.out _).trans HT4.out (by simp)).alloc (.cells #[.int .u64 sg, .int .i64 s] 45))
    have p0 := (Frm.cell_row _ _ 0 _ _ _ hn).trans rfl
    have p1 := (Frm.cell_row _ _ 1 _ _ _ hn).trans rfl
    clear hn HP HN HB HGC
    go_quiet (first
      | (go_at_call 17; exact quiet_at (HD.out _ (HT5.out.drewN _)).2)
      | (go_at_call 7; exact quiet_at (HD.out _ (HT5.out.drewN _)).1))
    go_wp2
    go_ret
    exact ⟨rfl, by first | exact HT5.out.drewN _ | exact HT5.out.drew⟩
  · have hn := World.alloc_heap_new w4 (.cells #[.int .u64 sg, .int .i64 s] 45)
    obtain ⟨g0, g1, g2, g3, g4⟩ := HGC.out _ (HT4.out.alloc (.cells #[.int .u64 sg, .int .i64 s] 45))
    have HT5 := Lib.hid (((HA.out _).trans HT4.out (by simp)).alloc (.cells #[.int .u64 sg, .int .i64 s] 45))
    have p0 := (Frm.cell_row _ _ 0 _ _ _ hn).trans rfl
    have p1 := (Frm.cell_row _ _ 1 _ _ _ hn).trans rfl
    clear hn HP HN HB HGC
    go_quiet (first
      | (go_at_call 17; exact quiet_at (HD.out _ (HT5.out.drewN _)).2)
      | (go_at_call 7; exact quiet_at (HD.out _ (HT5.out.drewN _)).1))
    go_wp2
    go_ret
    exact ⟨rfl, by first | exact HT5.out.drewN _ | exact HT5.out.drew⟩
set_option maxRecDepth 100000 in
set_option maxHeartbeats 4000000 in
/-- .. with a block that is private. -/
theorem same_some (hc : ClAt W r b C) (h5 : C.st ≤ 5) (h0 : C.st ≠ 0) (h1 : C.own = false) (h3 : C.laid = ld) (hl : ld ≠ 0) (h4 : C.err = er) :
    Calls Tryz.prog 15 #[.pointer (some ⟨r, 0, none⟩), .agg (gotAll sg s false ld er), .bool true] W fun e w' => e = .returned (.bool true) ∧ Frm.Turn [] W w' := by
  have HD := Lib.hid (fun W' (hT : Frm.Turn [] W W') => And.intro (done_any (hc.turn hT (by simp)) h5) (err_any (hc.turn hT (by simp))))
  have HA : Hid (∀ o, Frm.Turn [] W (W.alloc o)) := Lib.hid (fun o => (Frm.Turn.refl [] W).alloc o)
  have HP := Lib.hid (fun o => place_any (hc.turn (HA.out o) (by simp)))
  have HN := Lib.hid (fun W' (hT : Frm.Turn [] W W') => private_some (hc.turn hT (by simp)) (by rw [h3]; exact hl))
  have HB := Lib.hid (World.alloc_heap_new W (.cells (gotAll sg s false ld er) 56))
  rw [h1] at HP
  rw [h3] at HN
  rw [h4] at HD
  have hz : decide (C.st = 0) = false := decide_eq_false h0
  rw [hz] at HD
  simp only [Bool.false_eq_true, if_false] at HP
  have hld : (ld == 0) = false := by simpa using hl
  clear hc h5 h1 h3 h4 h0 hz hl
  have HGC := Lib.hid (fun W' (hT : Frm.Turn [] (W.alloc (.cells (gotAll sg s false ld er) 56)) W') => got_cells (hT.keep HB.out (by simp)))
  unfold gotAll at HGC ⊢
  go_enter Tryz.func15, Tryz.ntmps15
  go_upto_region 3 with (first
    | (go_at_call 8; (with_reducible refine (HP.out _).mono ?_); rintro e w4 ⟨rfl, hT⟩; have HT4 := Lib.hid hT; clear hT)
    | (go_at_call 18; (with_reducible refine (HN.out _ (((HA.out _).trans HT4.out (by simp)).alloc _)).mono ?_); rintro e w5 ⟨rfl, q0, hT⟩; have HT5 := Lib.hid hT; clear hT))
  have hn := HT5.out.keep (World.alloc_heap_new w4 (.cells #[.int .u64 0, .int .i64 0] 45)) (by simp)
  obtain ⟨g0, g1, g2, g3, g4⟩ := HGC.out _ ((HT4.out.alloc (.cells #[.int .u64 0, .int .i64 0] 45)).trans HT5.out (by simp))
  have HT6 := Lib.hid ((((HA.out _).trans HT4.out (by simp)).alloc (.cells #[.int .u64 0, .int .i64 0] 45)).trans HT5.out (by simp))
  have p0 := (Frm.cell_row _ _ 0 _ _ _ hn).trans rfl
  have p1 := (Frm.cell_row _ _ 1 _ _ _ hn).trans rfl
  clear hn HP HN HB HGC
  go_quiet (first
    | (go_at_call 17; exact quiet_at (HD.out _ (HT6.out.drewN _)).2)
    | (go_at_call 7; exact quiet_at (HD.out _ (HT6.out.drewN _)).1))
  go_upto_region 7 with fail
  simp only [World.size_alloc] at q0
  go_quiet (fail)
  go_wp2
  go_ret
  exact ⟨rfl, by first | exact HT6.out.drewN _ | exact HT6.out.drew | exact (HT6.out.drewN _).drewN _ | exact (HT6.out.drewN _).drew⟩
end Clm
end Go.Proofs.YtolcpfidmpoipaaGreat

set_option linter.unusedVariables false
set_option linter.unusedSimpArgs false
namespace Go.Proofs.YtolcpfidmpoipaaGreat
namespace Evn
open Arn Clm
variable {tok : Int} {A A' : Ar} {L : List Res} {r : Res} {C : Cl} {j : Nat} {sg s ld er : Int} {own : Bool}
theorem clAt_last (ht : Tied tok C L) : clAt tok L r (L.length + 1) = C.next r := by
  unfold clAt
  rw [(stAt_last _ _ _ _).1, ← ht.eq]
theorem clAt_elder (ht : Tied tok C L) (h0 : C.st ≠ 0) (h : j ≤ L.length) : (clAt tok L r j).st ≠ 0 := by
  unfold clAt stAt
  rw [List.take_append_of_le_length h]
  rw [ht.eq] at h0
  exact st_before h0 j
/-- What a claim got, and what it is. -/
structure GotOk (C : Cl) (sg s : Int) (own : Bool) (ld er : Int) (stop : Bool) : Prop where
  ow : C.own = own
  at_ : own = true → C.seg = sg ∧ (C.slot : Int) = s
  la : C.laid = ld
  er_ : C.err = er
  sp : stop = !decide (C.st = 0)
theorem run_ok (ht : Tied tok C L) (hk : tok ≠ 0) (h0 : C.st ≠ 0) (h : RunOk tok L r j sg s own ld er) :
    (plcE A A' L r j).A = A' ∧ (plcE A A' L r j).log = L ++ [r] ∧ GotOk (C.next r) sg s own ld er (plcE A A' L r j).stop := by
  have hl := clAt_last (r := r) ht
  have hw := clAt_way (L := L) (r := r) hk (L.length + 1)
  rcases h with ⟨rfl, h1, h2, rfl, rfl⟩ | ⟨hj, h1, h2, h3, h4, h5⟩
  · rw [plc_stop]
    unfold plcE
    rw [if_neg (by omega)]
    obtain ⟨w1, w2⟩ := hw.own h1
    rw [hl] at h1 h2 w1 w2
    exact ⟨rfl, rfl, w1, (fun e => by cases e), h2, w2, by rw [decide_eq_true (by omega), decide_eq_false h1]; rfl⟩
  · have hj' : j = L.length + 1 := by
      rcases Nat.lt_or_ge L.length j with h | h
      · omega
      · exact absurd h1 (clAt_elder ht h0 h)
    subst hj'
    rw [plc_stop]
    unfold plcE
    rw [if_pos (by omega), pos_new]
    rw [hl] at h1 h2 h3 h4 h5
    exact ⟨rfl, rfl, h2, h5, h3, h4, by rw [decide_eq_false (by omega), decide_eq_true h1]; rfl⟩
variable {W : World} {rb b : Nat} {stop : Bool}
/-- A claim tells what the document's got. -/
theorem same_any (hc : ClAt W rb b C) (hw : C.Way tok) (h : GotOk C sg s own ld er stop) :
    Calls Tryz.prog 15 #[.pointer (some ⟨rb, 0, none⟩), .agg (gotAll sg s own ld er), .bool stop] W fun e w' => e = .returned (.bool true) ∧ Frm.Turn [] W w' := by
  by_cases e : ld = 0
  · subst e
    exact same_none hc hw.st h.ow h.at_ h.la h.er_ h.sp
  · have h0 : C.st ≠ 0 := by
      rcases hw.laid with h1 | h1
      · omega
      · exact absurd (h.la.symm.trans h1) e
    have ho := (hw.own h0).1
    have hs := h.sp
    rw [decide_eq_false h0] at hs
    have ho' := h.ow
    rw [ho] at ho'
    subst ho'
    subst hs
    exact same_some hc hw.st h0 ho h.la e h.er_
end Evn
end Go.Proofs.YtolcpfidmpoipaaGreat
