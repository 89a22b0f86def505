/- A program's machine is made. -/
import Derived.Test.YtkjcccjkfjebaaaPaceMachine
import Derived.Test.YtkjcccjkfjebaaaArenaRefLay
set_option linter.unusedVariables false
set_option linter.unusedSimpArgs false
namespace Go.Proofs.Ytkjcccjkfjebaaa
namespace Pac
open Go.RowKit Go.Maps Arn

def kindOf (kind : Int) : Int := (IntKind.u64.wrap kind).tmod 3
theorem info_mach : (Try.prog.info? 94).map (·.size) = some 3 := by kernel_rfl
theorem under_mach : structB (Try.prog.underlying 94) = true := by kernel_rfl
set_option maxRecDepth 100000 in
set_option maxHeartbeats 1000000 in
theorem made_R (bp xv hv pv : Value) (kind : Int) (w : World) (P : Nat → List Nat → World → Prop) (hP : ∀ r, Stays (P r)) (hk : kindOf kind = 0)
    (h : ∀ W, Frm.Turn [] w W → Calls Try.prog 44 #[bp, xv] W fun e w' => ∃ r F, e = .returned (.pointer (some ⟨r, 0, none⟩)) ∧ P r F w' ∧ (∀ k, k ∈ F → W.heap.size ≤ k ∧ k < w'.heap.size) ∧ Frm.Turn [] W w') :
    Calls Try.prog 48 #[bp, .agg #[.int .i64 kind, xv, hv, pv]] w fun e w' => ∃ r F, e = .returned (mcR r) ∧ P r F w' ∧ (∀ k, k ∈ F → w.heap.size ≤ k ∧ k < w'.heap.size) ∧ Frm.Turn [] w w' := by
  unfold kindOf at hk
  have e0 : ((IntKind.u64.wrap kind).tmod 3 == 0) = true := by rw [hk]; rfl
  have H := Lib.hid h
  have HPP := Lib.hid hP
  obtain ⟨fs, hfs⟩ := struct_of under_mach
  have HFS := Lib.hid hfs
  clear h hP hk hfs
  go_enter Try.func48, Try.ntmps48
  go_upto_region 1 with fail
  have hz : ((w.alloc (.cells #[.int .i64 kind, xv, hv, pv] 86)).alloc (.cells #[.pointer none, .pointer none, .pointer none] 94)).heap[w.heap.size + 1]? = some (.cells #[.pointer none, .pointer none, .pointer none] 94 (0, 0)) := by
    have := World.alloc_heap_new (w.alloc (.cells #[.int .i64 kind, xv, hv, pv] 86)) (.cells #[.pointer none, .pointer none, .pointer none] 94)
    rwa [World.size_alloc] at this
  have hT0 : Frm.Turn [] w ((w.alloc (.cells #[.int .i64 kind, xv, hv, pv] 86)).alloc (.cells #[.pointer none, .pointer none, .pointer none] 94)) := ((Frm.Turn.refl [] w).alloc _).alloc _
  have hcl : ∀ i u, (#[Value.int .i64 kind, xv, hv, pv])[i]? = some u → ((w.alloc (.cells #[.int .i64 kind, xv, hv, pv] 86)).alloc (.cells #[.pointer none, .pointer none, .pointer none] 94)).cell? ⟨w.heap.size, i, none⟩ = some u := fun i u hu => by
    refine ((Frm.Turn.refl [] _).alloc _).cell ?_ (by simp)
    rw [Frm.cell_row _ _ _ _ _ _ (World.alloc_heap_new w _)]
    exact hu
  have hcz : w.heap.size + 1 < ((w.alloc (.cells #[.int .i64 kind, xv, hv, pv] 86)).alloc (.cells #[.pointer none, .pointer none, .pointer none] 94)).heap.size := by simp
  generalize (w.alloc (.cells #[.int .i64 kind, xv, hv, pv] 86)).alloc (.cells #[.pointer none, .pointer none, .pointer none] 94) = W at hz hT0 hcl hcz ⊢
  obtain ⟨bz, HZ⟩ : ∃ bz, Hid (bz = w.heap.size + 1) := ⟨_, Lib.hid rfl⟩
  rw [← HZ.out] at hz hcz ⊢
  obtain ⟨bx, HX⟩ : ∃ bx, Hid (bx = w.heap.size) := ⟨_, Lib.hid rfl⟩
  rw [← HX.out] at hcl ⊢
  have c0 := hcl 0 _ rfl
  have cv := hcl 1 _ rfl
  have HHZ := Lib.hid hz
  have HT0 := Lib.hid hT0
  have HCZ := Lib.hid hcz
  clear hz hT0 hcl hcz
  go_wp2_with (first
    | (go_at_call 44; (with_reducible refine (H.out _ HT0.out).mono ?_); rintro e w2 ⟨r, F, rfl, hp, hF, hT⟩; have HP2 := Lib.hid hp; have HF2 := Lib.hid hF; have HT2 := Lib.hid hT; have HHZ2 := Lib.hid (hT.keep HHZ.out (by simp)); clear hp hF hT)
    | (refine wpList_store_row rfl 94 (.tmp 4) (.tmp 15) rfl bz #[.pointer (some ⟨r, 0, none⟩), .pointer none, .pointer none] rfl rfl 94 #[.pointer none, .pointer none, .pointer none] HHZ2.out (by exact info_mach) rfl (by simp [Value.oneCell']) ?_))
  have hld : (loadVar 94 ⟨bz, 0, none⟩).run Try.prog (w2.setRow bz #[.pointer (some ⟨r, 0, none⟩), .pointer none, .pointer none]) = .ok (.agg #[.pointer (some ⟨r, 0, none⟩), .pointer none, .pointer none]) (w2.setRow bz #[.pointer (some ⟨r, 0, none⟩), .pointer none, .pointer none]) :=
    run_loadVar_row (w2.setRow bz #[.pointer (some ⟨r, 0, none⟩), .pointer none, .pointer none]) bz _ _ #[.pointer (some ⟨r, 0, none⟩), .pointer none, .pointer none] (0, 0) (.struct fs) (setRow_heap w2 bz _ #[.pointer (some ⟨r, 0, none⟩), .pointer none, .pointer none] _ _ HHZ2.out) HFS.out rfl info_mach
  refine bodyPost_ret (v := mcR r) (by simp [results, Try.results48, asAddr, hld, mcR, Act.put]) rfl ⟨r, F, rfl, ?_, ?_, ?_⟩
  · refine HPP.out r _ _ _ _ HP2.out (setRow_turn (g := bz) (Frm.Turn.refl [bz] w2) (.inl (by simp)) #[.pointer (some ⟨r, 0, none⟩), .pointer none, .pointer none]) (fun k hk hk' => ?_)
    have := (HF2.out k hk).1
    have := HCZ.out
    simp at hk'; omega
  · intro k hk
    have := HF2.out k hk
    have := HT0.out.size
    simp; omega
  · exact setRow_turn (HT0.out.trans HT2.out (by simp)) (.inr (by rw [HZ.out]; omega)) _
set_option maxRecDepth 100000 in
set_option maxHeartbeats 1000000 in
theorem made_F (bp xv hv pv : Value) (kind : Int) (w : World) (P : Nat → List Nat → World → Prop) (hP : ∀ r, Stays (P r)) (hk : kindOf kind = 1)
    (h : ∀ W, Frm.Turn [] w W → Calls Try.prog 79 #[bp, hv] W fun e w' => ∃ r F, e = .returned (.pointer (some ⟨r, 0, none⟩)) ∧ P r F w' ∧ (∀ k, k ∈ F → W.heap.size ≤ k ∧ k < w'.heap.size) ∧ Frm.Turn [] W w') :
    Calls Try.prog 48 #[bp, .agg #[.int .i64 kind, xv, hv, pv]] w fun e w' => ∃ r F, e = .returned (mcF r) ∧ P r F w' ∧ (∀ k, k ∈ F → w.heap.size ≤ k ∧ k < w'.heap.size) ∧ Frm.Turn [] w w' := by
  unfold kindOf at hk
  have e0 : ((IntKind.u64.wrap kind).tmod 3 == 0) = false := by rw [hk]; rfl
  have e1 : ((IntKind.u64.wrap kind).tmod 3 == 1) = true := by rw [hk]; rfl
  have H := Lib.hid h
  have HPP := Lib.hid hP
  obtain ⟨fs, hfs⟩ := struct_of under_mach
  have HFS := Lib.hid hfs
  clear h hP hk hfs
  go_enter Try.func48, Try.ntmps48
  go_upto_region 1 with fail
  have hz : ((w.alloc (.cells #[.int .i64 kind, xv, hv, pv] 86)).alloc (.cells #[.pointer none, .pointer none, .pointer none] 94)).heap[w.heap.size + 1]? = some (.cells #[.pointer none, .pointer none, .pointer none] 94 (0, 0)) := by
    have := World.alloc_heap_new (w.alloc (.cells #[.int .i64 kind, xv, hv, pv] 86)) (.cells #[.pointer none, .pointer none, .pointer none] 94)
    rwa [World.size_alloc] at this
  have hT0 : Frm.Turn [] w ((w.alloc (.cells #[.int .i64 kind, xv, hv, pv] 86)).alloc (.cells #[.pointer none, .pointer none, .pointer none] 94)) := ((Frm.Turn.refl [] w).alloc _).alloc _
  have hcl : ∀ i u, (#[Value.int .i64 kind, xv, hv, pv])[i]? = some u → ((w.alloc (.cells #[.int .i64 kind, xv, hv, pv] 86)).alloc (.cells #[.pointer none, .pointer none, .pointer none] 94)).cell? ⟨w.heap.size, i, none⟩ = some u := fun i u hu => by
    refine ((Frm.Turn.refl [] _).alloc _).cell ?_ (by simp)
    rw [Frm.cell_row _ _ _ _ _ _ (World.alloc_heap_new w _)]
    exact hu
  have hcz : w.heap.size + 1 < ((w.alloc (.cells #[.int .i64 kind, xv, hv, pv] 86)).alloc (.cells #[.pointer none, .pointer none, .pointer none] 94)).heap.size := by simp
  generalize (w.alloc (.cells #[.int .i64 kind, xv, hv, pv] 86)).alloc (.cells #[.pointer none, .pointer none, .pointer none] 94) = W at hz hT0 hcl hcz ⊢
  obtain ⟨bz, HZ⟩ : ∃ bz, Hid (bz = w.heap.size + 1) := ⟨_, Lib.hid rfl⟩
  rw [← HZ.out] at hz hcz ⊢
  obtain ⟨bx, HX⟩ : ∃ bx, Hid (bx = w.heap.size) := ⟨_, Lib.hid rfl⟩
  rw [← HX.out] at hcl ⊢
  have c0 := hcl 0 _ rfl
  have cv := hcl 2 _ rfl
  have HHZ := Lib.hid hz
  have HT0 := Lib.hid hT0
  have HCZ := Lib.hid hcz
  clear hz hT0 hcl hcz
  go_wp2_with (first
    | (go_at_call 79; (with_reducible refine (H.out _ HT0.out).mono ?_); rintro e w2 ⟨r, F, rfl, hp, hF, hT⟩; have HP2 := Lib.hid hp; have HF2 := Lib.hid hF; have HT2 := Lib.hid hT; have HHZ2 := Lib.hid (hT.keep HHZ.out (by simp)); clear hp hF hT)
    | (refine wpList_store_row rfl 94 (.tmp 4) (.tmp 22) rfl bz #[.pointer none, .pointer (some ⟨r, 0, none⟩), .pointer none] rfl rfl 94 #[.pointer none, .pointer none, .pointer none] HHZ2.out (by exact info_mach) rfl (by simp [Value.oneCell']) ?_))
  have hld : (loadVar 94 ⟨bz, 0, none⟩).run Try.prog (w2.setRow bz #[.pointer none, .pointer (some ⟨r, 0, none⟩), .pointer none]) = .ok (.agg #[.pointer none, .pointer (some ⟨r, 0, none⟩), .pointer none]) (w2.setRow bz #[.pointer none, .pointer (some ⟨r, 0, none⟩), .pointer none]) :=
    run_loadVar_row (w2.setRow bz #[.pointer none, .pointer (some ⟨r, 0, none⟩), .pointer none]) bz _ _ #[.pointer none, .pointer (some ⟨r, 0, none⟩), .pointer none] (0, 0) (.struct fs) (setRow_heap w2 bz _ #[.pointer none, .pointer (some ⟨r, 0, none⟩), .pointer none] _ _ HHZ2.out) HFS.out rfl info_mach
  refine bodyPost_ret (v := mcF r) (by simp [results, Try.results48, asAddr, hld, mcF, Act.put]) rfl ⟨r, F, rfl, ?_, ?_, ?_⟩
  · refine HPP.out r _ _ _ _ HP2.out (setRow_turn (g := bz) (Frm.Turn.refl [bz] w2) (.inl (by simp)) #[.pointer none, .pointer (some ⟨r, 0, none⟩), .pointer none]) (fun k hk hk' => ?_)
    have := (HF2.out k hk).1
    have := HCZ.out
    simp at hk'; omega
  · intro k hk
    have := HF2.out k hk
    have := HT0.out.size
    simp; omega
  · exact setRow_turn (HT0.out.trans HT2.out (by simp)) (.inr (by rw [HZ.out]; omega)) _
set_option maxRecDepth 100000 in
set_option maxHeartbeats 1000000 in
theorem made_L (bp xv hv pv : Value) (kind : Int) (w : World) (P : Nat → List Nat → World → Prop) (hP : ∀ r, Stays (P r)) (hk : kindOf kind = 2)
    (h : ∀ W, Frm.Turn [] w W → Calls Try.prog 76 #[bp, pv] W fun e w' => ∃ r F, e = .returned (.pointer (some ⟨r, 0, none⟩)) ∧ P r F w' ∧ (∀ k, k ∈ F → W.heap.size ≤ k ∧ k < w'.heap.size) ∧ Frm.Turn [] W w') :
    Calls Try.prog 48 #[bp, .agg #[.int .i64 kind, xv, hv, pv]] w fun e w' => ∃ r F, e = .returned (mcL r) ∧ P r F w' ∧ (∀ k, k ∈ F → w.heap.size ≤ k ∧ k < w'.heap.size) ∧ Frm.Turn [] w w' := by
  unfold kindOf at hk
  have e0 : ((IntKind.u64.wrap kind).tmod 3 == 0) = false := by rw [hk]; rfl
  have e1 : ((IntKind.u64.wrap kind).tmod 3 == 1) = false := by rw [hk]; rfl
  have H := Lib.hid h
  have HPP := Lib.hid hP
  obtain ⟨fs, hfs⟩ := struct_of under_mach
  have HFS := Lib.hid hfs
  clear h hP hk hfs
  go_enter Try.func48, Try.ntmps48
  go_upto_region 1 with fail
  have hz : ((w.alloc (.cells #[.int .i64 kind, xv, hv, pv] 86)).alloc (.cells #[.pointer none, .pointer none, .pointer none] 94)).heap[w.heap.size + 1]? = some (.cells #[.pointer none, .pointer none, .pointer none] 94 (0, 0)) := by
    have := World.alloc_heap_new (w.alloc (.cells #[.int .i64 kind, xv, hv, pv] 86)) (.cells #[.pointer none, .pointer none, .pointer none] 94)
    rwa [World.size_alloc] at this
  have hT0 : Frm.Turn [] w ((w.alloc (.cells #[.int .i64 kind, xv, hv, pv] 86)).alloc (.cells #[.pointer none, .pointer none, .pointer none] 94)) := ((Frm.Turn.refl [] w).alloc _).alloc _
  have hcl : ∀ i u, (#[Value.int .i64 kind, xv, hv, pv])[i]? = some u → ((w.alloc (.cells #[.int .i64 kind, xv, hv, pv] 86)).alloc (.cells #[.pointer none, .pointer none, .pointer none] 94)).cell? ⟨w.heap.size, i, none⟩ = some u := fun i u hu => by
    refine ((Frm.Turn.refl [] _).alloc _).cell ?_ (by simp)
    rw [Frm.cell_row _ _ _ _ _ _ (World.alloc_heap_new w _)]
    exact hu
  have hcz : w.heap.size + 1 < ((w.alloc (.cells #[.int .i64 kind, xv, hv, pv] 86)).alloc (.cells #[.pointer none, .pointer none, .pointer none] 94)).heap.size := by simp
  generalize (w.alloc (.cells #[.int .i64 kind, xv, hv, pv] 86)).alloc (.cells #[.pointer none, .pointer none, .pointer none] 94) = W at hz hT0 hcl hcz ⊢
  obtain ⟨bz, HZ⟩ : ∃ bz, Hid (bz = w.heap.size + 1) := ⟨_, Lib.hid rfl⟩
  rw [← HZ.out] at hz hcz ⊢
  obtain ⟨bx, HX⟩ : ∃ bx, Hid (bx = w.heap.size) := ⟨_, Lib.hid rfl⟩
  rw [← HX.out] at hcl ⊢
  have c0 := hcl 0 _ rfl
  have cv := hcl 3 _ rfl
  have HHZ := Lib.hid hz
  have HT0 := Lib.hid hT0
  have HCZ := Lib.hid hcz
  clear hz hT0 hcl hcz
  go_wp2_with (first
    | (go_at_call 76; (with_reducible refine (H.out _ HT0.out).mono ?_); rintro e w2 ⟨r, F, rfl, hp, hF, hT⟩; have HP2 := Lib.hid hp; have HF2 := Lib.hid hF; have HT2 := Lib.hid hT; have HHZ2 := Lib.hid (hT.keep HHZ.out (by simp)); clear hp hF hT)
    | (refine wpList_store_row rfl 94 (.tmp 4) (.tmp 27) rfl bz #[.pointer none, .pointer none, .pointer (some ⟨r, 0, none⟩)] rfl rfl 94 #[.pointer none, .pointer none, .pointer none] HHZ2.out (by exact info_mach) rfl (by simp [Value.oneCell']) ?_))
  have hld : (loadVar 94 ⟨bz, 0, none⟩).run Try.prog (w2.setRow bz #[.pointer none, .pointer none, .pointer (some ⟨r, 0, none⟩)]) = .ok (.agg #[.pointer none, .pointer none, .pointer (some ⟨r, 0, none⟩)]) (w2.setRow bz #[.pointer none, .pointer none, .pointer (some ⟨r, 0, none⟩)]) :=
    run_loadVar_row (w2.setRow bz #[.pointer none, .pointer none, .pointer (some ⟨r, 0, none⟩)]) bz _ _ #[.pointer none, .pointer none, .pointer (some ⟨r, 0, none⟩)] (0, 0) (.struct fs) (setRow_heap w2 bz _ #[.pointer none, .pointer none, .pointer (some ⟨r, 0, none⟩)] _ _ HHZ2.out) HFS.out rfl info_mach
  refine bodyPost_ret (v := mcL r) (by simp [results, Try.results48, asAddr, hld, mcL, Act.put]) rfl ⟨r, F, rfl, ?_, ?_, ?_⟩
  · refine HPP.out r _ _ _ _ HP2.out (setRow_turn (g := bz) (Frm.Turn.refl [bz] w2) (.inl (by simp)) #[.pointer none, .pointer none, .pointer (some ⟨r, 0, none⟩)]) (fun k hk hk' => ?_)
    have := (HF2.out k hk).1
    have := HCZ.out
    simp at hk'; omega
  · intro k hk
    have := HF2.out k hk
    have := HT0.out.size
    simp; omega
  · exact setRow_turn (HT0.out.trans HT2.out (by simp)) (.inr (by rw [HZ.out]; omega)) _
end Pac
end Go.Proofs.Ytkjcccjkfjebaaa
