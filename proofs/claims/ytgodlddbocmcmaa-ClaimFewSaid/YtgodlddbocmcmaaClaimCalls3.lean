/- A claim made, stepped, asked. -/
import Derived.Test.YtgodlddbocmcmaaClaimCalls2
set_option linter.unusedVariables false
set_option linter.unusedSimpArgs false
namespace Go.Proofs.Ytgodlddbocmcmaa
namespace Clm
open Go.RowKit Go.Maps Arn Pac

variable {w W W' : World} {r b n : Nat} {M : Mem} {A : Ar} {C : Cl} {g : Value}
theorem enters_find : Enters Try.prog 28 := enters_of Try.func28 (by kernel_rfl) rfl
theorem enters_lay : Enters Try.prog 38 := enters_of Try.func38 (by kernel_rfl) rfl
theorem enters_hang : Enters Try.prog 49 := enters_of Try.func49 (by kernel_rfl) rfl
theorem enters_free : Enters Try.prog 55 := enters_of Try.func55 (by kernel_rfl) rfl
theorem enters_take : Enters Try.prog 29 := enters_of Try.func29 (by kernel_rfl) rfl
/-- What a step needs to know of a claim. -/
structure Cl.Fit (C : Cl) : Prop where
  st : C.st ≤ 5
  slot : C.slot < 255
  tok : W64 C.tok
  seg : W64 C.seg
  laid : W64 C.laid
  five : C.st = 5 → C.seg ≠ 0
theorem Cl.Good.fit {h : Nat → Int} (hC : C.Good h) : C.Fit := ⟨hC.st, hC.slot, hC.tok64, hC.seg64, hC.laid64, fun e => (hC.seg (.inl e)).2⟩
theorem gear_any (h : Sin w b M A n W) (hn : n ≤ 10000000) (hc : ClAt W r b C) (hr : r ∉ M.foot b) (hw : w.heap.size ≤ r) (hf : C.Fit) :
    Calls Try.prog 24 #[.pointer (some ⟨r, 0, none⟩)] W fun e w' => e = .returned (.tuple #[]) ∧ ClAfter w b r M (C.step A).1 (n + 1) (C.step A).2 W w' := by
  have hlt := ClBody.lt hc
  have h5 := hf.st
  refine gstep_any r (nx r C.st) W (ClBody.cells hc).1 ?_
  unfold Cl.step
  by_cases s1 : C.st = 1
  · rw [if_pos s1]
    rw [show nx r C.st = .func (.func 28) #[.pointer (some ⟨r, 0, none⟩)] #[] by rw [s1]; rfl]
    exact call_fn #[.pointer (some ⟨r, 0, none⟩)] #[] W enters_find (find_any h hn hc hr hw hf.slot)
  by_cases s2 : C.st = 2
  · rw [if_neg s1, if_pos s2]
    rw [show nx r C.st = .func (.func 38) #[.pointer (some ⟨r, 0, none⟩)] #[] by rw [s2]; rfl]
    exact call_fn #[.pointer (some ⟨r, 0, none⟩)] #[] W enters_lay (lay_any h hn hc hr hw hf.slot)
  by_cases s3 : C.st = 3
  · rw [if_neg s1, if_neg s2, if_pos s3]
    rw [show nx r C.st = .func (.func 49) #[.pointer (some ⟨r, 0, none⟩)] #[] by rw [s3]; rfl]
    exact call_fn #[.pointer (some ⟨r, 0, none⟩)] #[] W enters_hang (hang_any h hn hc hr hw hf.slot hf.laid)
  by_cases s4 : C.st = 4
  · rw [if_neg s1, if_neg s2, if_neg s3, if_pos s4]
    rw [show nx r C.st = .func (.func 55) #[.pointer (some ⟨r, 0, none⟩)] #[] by rw [s4]; rfl]
    exact call_fn #[.pointer (some ⟨r, 0, none⟩)] #[] W enters_free (free_any h hn hc hr hw hf.laid)
  by_cases s5 : C.st = 5
  · rw [if_neg s1, if_neg s2, if_neg s3, if_neg s4, if_pos s5]
    rw [show nx r C.st = .func (.func 29) #[.pointer (some ⟨r, 0, none⟩)] #[] by rw [s5]; rfl]
    exact call_fn #[.pointer (some ⟨r, 0, none⟩)] #[] W enters_take (take_any h hn hc hr hw hf.slot hf.tok hf.seg (hf.five s5))
  · rw [if_neg s1, if_neg s2, if_neg s3, if_neg s4, if_neg s5]
    rw [show nx r C.st = .nilFunc by rw [show C.st = 0 by omega]; rfl]
    refine (call_none W).mono ?_
    rintro e w' ⟨he, rfl⟩
    exact ⟨he, M, h.more (by omega), hc, hr, Frm.Turn.refl _ _, fun k hk => .inl hk⟩
theorem step_any (h : Sin w b M A n W) (hn : n ≤ 10000000) (hc : ClAt W r b C) (hr : r ∉ M.foot b) (hw : w.heap.size ≤ r) (hf : C.Fit) :
    Calls Try.prog 13 #[.pointer (some ⟨r, 0, none⟩)] W fun e w' => e = .returned (.tuple #[]) ∧ ClAfter w b r M (C.step A).1 (n + 1) (C.step A).2 W w' := by
  have H := Lib.hid (gear_any h hn hc hr hw hf)
  generalize (C.step A).1 = A' at H ⊢
  generalize (C.step A).2 = C' at H ⊢
  clear h hc hr hw hf
  go_enter Try.func13, Try.ntmps13
  go_wp2_with (go_at_call 24; (with_reducible refine (H.out).mono ?_); rintro e w1 ⟨rfl, ha⟩)
  go_end0
  exact ⟨rfl, ha⟩
theorem idle_nx (r : Nat) {st : Nat} (h : st ≤ 5) : idle (nx r st) = decide (st = 0) := by
  unfold nx
  have : st = 0 ∨ st = 1 ∨ st = 2 ∨ st = 3 ∨ st = 4 ∨ st = 5 := by omega
  rcases this with rfl | rfl | rfl | rfl | rfl | rfl <;> rfl
theorem done_any (hc : ClAt W r b C) (h5 : C.st ≤ 5) :
    Calls Try.prog 8 #[.pointer (some ⟨r, 0, none⟩)] W fun e w' => e = .returned (.bool (decide (C.st = 0))) ∧ W = w' := by
  have h1 := gdone_any r _ W (nx_fn r C.st) (ClBody.cells hc).1
  rw [idle_nx r h5] at h1
  have H := Lib.hid h1
  clear h1 hc
  generalize decide (C.st = 0) = z at H ⊢
  go_enter Try.func8, Try.ntmps8
  go_wp2_with (go_at_call 21; (with_reducible refine (H.out).mono ?_); rintro e w1 ⟨rfl, rfl⟩)
  go_ret
  exact ⟨rfl, rfl⟩
theorem err_any (hc : ClAt W r b C) :
    Calls Try.prog 16 #[.pointer (some ⟨r, 0, none⟩)] W fun e w' => e = .returned (.int .i64 C.err) ∧ W = w' := by
  obtain ⟨c0, c1, c2, c3, c4, c5, c6, c7⟩ := ClBody.cells hc
  clear hc
  go_enter Try.func16, Try.ntmps16
  go_wp2
  go_ret
  exact ⟨rfl, rfl⟩
theorem private_none (hc : ClAt W r b C) (h0 : C.laid = 0) :
    Calls Try.prog 14 #[.pointer (some ⟨r, 0, none⟩)] W fun e w' => e = .returned (.slice none 0 0) ∧ W = w' := by
  obtain ⟨c0, c1, c2, c3, c4, c5, c6, c7⟩ := ClBody.cells hc
  have h0' : (C.laid == 0) = true := by simpa using h0
  clear hc h0
  generalize C.laid = x at c6 h0'
  go_enter Try.func14, Try.ntmps14
  go_wp2
  go_ret
  exact ⟨rfl, rfl⟩
theorem private_some (hc : ClAt W r b C) (h0 : C.laid ≠ 0) :
    Calls Try.prog 14 #[.pointer (some ⟨r, 0, none⟩)] W fun e w' => e = .returned (.slice (some ⟨W.heap.size, 0, none⟩) 1 1) ∧ w'.cell? ⟨W.heap.size, 0, none⟩ = some (.int .u64 C.laid) ∧ Frm.Turn [] W w' := by
  obtain ⟨c0, c1, c2, c3, c4, c5, c6, c7⟩ := ClBody.cells hc
  have h0' : (C.laid == 0) = false := by simpa using h0
  clear hc h0
  generalize C.laid = x at c6 h0' ⊢
  go_enter Try.func14, Try.ntmps14
  go_wp2
  go_ret
  exact ⟨rfl, (Frm.cell_row _ _ 0 _ _ _ (World.alloc_heap_new W _)).trans rfl, (Frm.Turn.refl [] W).alloc _⟩
theorem new_any (tok : Int) (W : World) :
    Calls Try.prog 7 #[.pointer (some ⟨b, 0, none⟩), .int .u64 tok] W fun e w' => e = .returned (.pointer (some ⟨W.heap.size, 0, none⟩)) ∧ ClAt w' W.heap.size b (Cl.new tok) ∧ Frm.Turn [] W w' ∧ W.heap.size < w'.heap.size := by
  have hb : ClBody (W.alloc (.cells #[.nilFunc, .pointer (some ⟨b, 0, none⟩), .int .u64 tok, .int .u64 0, .int .i64 0, .bool false, .int .u64 0, .int .i64 0] 60)) W.heap.size b .nilFunc tok 0 0 false 0 0 := World.alloc_heap_new W _
  have ht := (Frm.Turn.refl [] W).alloc (.cells #[.nilFunc, .pointer (some ⟨b, 0, none⟩), .int .u64 tok, .int .u64 0, .int .i64 0, .bool false, .int .u64 0, .int .i64 0] 60)
  have hl := hb.lt
  have HT := Lib.hid ht
  have HL := Lib.hid hl
  unfold Cl.new
  by_cases h0 : tok = 0
  · rw [if_pos h0]
    have h0' : (tok == 0) = true := by simpa using h0
    have HZ := Lib.hid h0
    have HF := Lib.hid (fail_any hb 2)
    clear hb ht hl h0
    go_enter Try.func7, Try.ntmps7
    go_wp2_with (go_at_call 19; (with_reducible refine (HF.out).mono ?_); rintro e w1 ⟨rfl, hb, hT⟩)
    go_ret
    refine ⟨rfl, ?_, HT.out.trans hT (fun k hk => by simp at hk; omega), by have := hT.size; have := HL.out; omega⟩
    rw [HZ.out] at hb
    exact hb
  · rw [if_neg h0]
    have h0' : (tok == 0) = false := by simpa using h0
    have HF : Hid (Calls Try.prog 20 #[.pointer (some ⟨W.heap.size, 0, none⟩), .int .i64 0] (W.alloc (.cells #[.nilFunc, .pointer (some ⟨b, 0, none⟩), .int .u64 tok, .int .u64 0, .int .i64 0, .bool false, .int .u64 0, .int .i64 0] 60)) fun e w' => e = .returned (.tuple #[]) ∧ ClAt w' W.heap.size b ⟨1, tok, 0, 0, false, 0, 0⟩ ∧ Frm.Turn [W.heap.size] (W.alloc (.cells #[.nilFunc, .pointer (some ⟨b, 0, none⟩), .int .u64 tok, .int .u64 0, .int .i64 0, .bool false, .int .u64 0, .int .i64 0] 60)) w') :=
      Lib.hid (turn_any (C := ⟨0, tok, 0, 0, false, 0, 0⟩) hb 0 (by omega))
    clear hb ht hl h0
    go_enter Try.func7, Try.ntmps7
    go_wp2_with (go_at_call 20; (with_reducible refine (HF.out).mono ?_); rintro e w1 ⟨rfl, hb, hT⟩)
    go_ret
    exact ⟨rfl, hb, HT.out.trans hT (fun k hk => by simp at hk; omega), by have := hT.size; have := HL.out; omega⟩
theorem under_plc : structB (Try.prog.underlying 34) = true := by kernel_rfl
theorem info_plc : (Try.prog.info? 34).map (·.size) = some 2 := by kernel_rfl
theorem load_plc {W : World} {k : Nat} {x y : Value} (h : W.heap[k]? = some (.cells #[x, y] 34 (0, 0))) : (loadVar 34 ⟨k, 0, none⟩).run Try.prog W = .ok (.agg #[x, y]) W := by
  obtain ⟨fs, hfs⟩ := struct_of under_plc
  exact run_loadVar_row W k _ _ #[x, y] (0, 0) (.struct fs) h hfs rfl info_plc
theorem place_no (hc : ClAt W r b C) (h0 : C.own = false) :
    Calls Try.prog 9 #[.pointer (some ⟨r, 0, none⟩)] W fun e w' => e = .returned (.tuple #[.agg #[.int .u64 0, .int .i64 0], .bool false]) ∧ Frm.Turn [] W w' := by
  have hA : ∀ o, ClAt (W.alloc o) r b C := fun o => hc.turn ((Frm.Turn.refl [] W).alloc o) (by simp)
  have c5 : ∀ o, (W.alloc o).cell? ⟨r, 5, none⟩ = some (.bool false) := fun o => by rw [← h0]; exact (ClBody.cells (hA o)).2.2.2.2.2.1
  have HT : Hid (∀ o, Frm.Turn [] W (W.alloc o)) := Lib.hid (fun o => (Frm.Turn.refl [] W).alloc o)
  clear hc hA h0
  go_enter Try.func9, Try.ntmps9
  go_wp2
  have hld := load_plc (World.alloc_heap_new W (.cells #[.int .u64 0, .int .i64 0] 34))
  exact bodyPost_ret (v := .tuple #[.agg #[.int .u64 0, .int .i64 0], .bool false]) (by simp [results, Try.results9, asAddr, hld, Act.put]) rfl ⟨rfl, HT.out _⟩
theorem place_yes (hc : ClAt W r b C) (h0 : C.own = true) :
    Calls Try.prog 9 #[.pointer (some ⟨r, 0, none⟩)] W fun e w' => e = .returned (.tuple #[.agg #[.int .u64 C.seg, .int .i64 C.slot], .bool true]) ∧ Frm.Turn [] W w' := by
  have hA : ∀ o, ClAt (W.alloc o) r b C := fun o => hc.turn ((Frm.Turn.refl [] W).alloc o) (by simp)
  have c5 : ∀ o, (W.alloc o).cell? ⟨r, 5, none⟩ = some (.bool true) := fun o => by rw [← h0]; exact (ClBody.cells (hA o)).2.2.2.2.2.1
  have c3 : ∀ o, (W.alloc o).cell? ⟨r, 3, none⟩ = some (.int .u64 C.seg) := fun o => (ClBody.cells (hA o)).2.2.2.1
  have c4 : ∀ o, (W.alloc o).cell? ⟨r, 4, none⟩ = some (.int .i64 C.slot) := fun o => (ClBody.cells (hA o)).2.2.2.2.1
  have HT : Hid (∀ o, Frm.Turn [] W (W.alloc o)) := Lib.hid (fun o => (Frm.Turn.refl [] W).alloc o)
  clear hc hA h0
  generalize (C.slot : Int) = y at c4 ⊢
  generalize C.seg = x at c3 ⊢
  go_enter Try.func9, Try.ntmps9
  go_wp2
  have hld := load_plc (World.alloc_heap_new W (.cells #[.int .u64 x, .int .i64 y] 34))
  exact bodyPost_ret (v := .tuple #[.agg #[.int .u64 x, .int .i64 y], .bool true]) (by simp [results, Try.results9, asAddr, hld, Act.put]) rfl ⟨rfl, HT.out _⟩
/-- Place, in one form. -/
theorem place_any (hc : ClAt W r b C) :
    Calls Try.prog 9 #[.pointer (some ⟨r, 0, none⟩)] W fun e w' => e = .returned (.tuple #[.agg #[.int .u64 (if C.own then C.seg else 0), .int .i64 (if C.own then (C.slot : Int) else 0)], .bool C.own]) ∧ Frm.Turn [] W w' := by
  cases h0 : C.own with
  | false => exact place_no hc h0
  | true => exact place_yes hc h0
end Clm
end Go.Proofs.Ytgodlddbocmcmaa
