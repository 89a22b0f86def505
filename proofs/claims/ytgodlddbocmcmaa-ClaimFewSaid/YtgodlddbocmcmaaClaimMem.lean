/- A claim in memory; its calls that touch no arena. -/
import Derived.Test.YtgodlddbocmcmaaClaimDir
import Derived.Test.YtgodlddbocmcmaaClaimStep
import Derived.Test.YtgodlddbocmcmaaArenaSin
import Derived.Test.YtgodlddbocmcmaaPaceCall
import Derived.Deep.RegionWith
import Derived.RangeFuncRecord
import Derived.Laws.Rows
set_option linter.unusedVariables false
set_option linter.unusedSimpArgs false
namespace Go.Proofs.Ytgodlddbocmcmaa
namespace Clm
open Go.RowKit Go.Maps Arn Pac

def structB (o : Option TypeDesc) : Bool := match o with | some (.struct _) => true | _ => false
theorem struct_of {o : Option TypeDesc} (h : structB o = true) : ∃ fs, o = some (.struct fs) := by
  unfold structB at h
  split at h
  · exact ⟨_, rfl⟩
  · cases h
theorem under_adr : structB (Try.prog.underlying 39) = true := by kernel_rfl
theorem info_adr : (Try.prog.info? 39).map (·.size) = some 2 := by kernel_rfl
/-- What a row of two words tells when it is loaded. -/
theorem load_adr {W : World} {k : Nat} {x y : Value} (h : W.heap[k]? = some (.cells #[x, y] 39 (0, 0))) : (loadVar 39 ⟨k, 0, none⟩).run Try.prog W = .ok (.agg #[x, y]) W := by
  obtain ⟨fs, hfs⟩ := struct_of under_adr
  exact run_loadVar_row W k _ _ #[x, y] (0, 0) (.struct fs) h hfs rfl info_adr
/-- What comes next in the state st. -/
def nx (r st : Nat) : Value :=
  if st = 1 then .func (.func 28) #[.pointer (some ⟨r, 0, none⟩)] #[]
  else if st = 2 then .func (.func 38) #[.pointer (some ⟨r, 0, none⟩)] #[]
  else if st = 3 then .func (.func 49) #[.pointer (some ⟨r, 0, none⟩)] #[]
  else if st = 4 then .func (.func 55) #[.pointer (some ⟨r, 0, none⟩)] #[]
  else if st = 5 then .func (.func 29) #[.pointer (some ⟨r, 0, none⟩)] #[]
  else .nilFunc
theorem nx_fn (r st : Nat) : IsFn (nx r st) := by
  unfold nx
  repeat' split
  all_goals first | exact isFn_func _ _ _ | exact isFn_nil
/-- A claim's cells. -/
def ClBody (W : World) (r b : Nat) (g : Value) (tok seg slot : Int) (own : Bool) (laid err : Int) : Prop :=
  W.heap[r]? = some (.cells #[g, .pointer (some ⟨b, 0, none⟩), .int .u64 tok, .int .u64 seg, .int .i64 slot, .bool own, .int .u64 laid, .int .i64 err] 60 (0, 0))
variable {W W' : World} {r b : Nat} {g : Value} {tok seg slot : Int} {own : Bool} {laid err : Int}
theorem ClBody.cells (h : ClBody W r b g tok seg slot own laid err) : W.cell? ⟨r, 0, none⟩ = some g ∧ W.cell? ⟨r, 1, none⟩ = some (.pointer (some ⟨b, 0, none⟩)) ∧ W.cell? ⟨r, 2, none⟩ = some (.int .u64 tok) ∧ W.cell? ⟨r, 3, none⟩ = some (.int .u64 seg) ∧
    W.cell? ⟨r, 4, none⟩ = some (.int .i64 slot) ∧ W.cell? ⟨r, 5, none⟩ = some (.bool own) ∧ W.cell? ⟨r, 6, none⟩ = some (.int .u64 laid) ∧ W.cell? ⟨r, 7, none⟩ = some (.int .i64 err) := by
  unfold ClBody at h
  refine ⟨?_, ?_, ?_, ?_, ?_, ?_, ?_, ?_⟩ <;> simp [World.cell?, h]
theorem ClBody.thaw (h : ClBody W r b g tok seg slot own laid err) (i : Nat) : W.frozen? ⟨r, i, none⟩ = false := Frm.frozen_row W r i _ _ h
theorem ClBody.turn {F : List Nat} (h : ClBody W r b g tok seg slot own laid err) (ht : Frm.Turn F W W') (hn : r ∉ F) : ClBody W' r b g tok seg slot own laid err := ht.keep h hn
theorem ClBody.lt (h : ClBody W r b g tok seg slot own laid err) : r < W.heap.size := (Array.getElem?_eq_some_iff.1 h).1
theorem ClBody.set0 (h : ClBody W r b g tok seg slot own laid err) (y : Value) : ClBody (W.setCell ⟨r, 0, none⟩ y) r b y tok seg slot own laid err := by
  unfold ClBody at h ⊢; rw [Frm.heap_set _ _ _ _ _ _ _ h]; simp
theorem ClBody.set3 (h : ClBody W r b g tok seg slot own laid err) (y : Int) : ClBody (W.setCell ⟨r, 3, none⟩ (.int .u64 y)) r b g tok y slot own laid err := by
  unfold ClBody at h ⊢; rw [Frm.heap_set _ _ _ _ _ _ _ h]; simp
theorem ClBody.set4 (h : ClBody W r b g tok seg slot own laid err) (y : Int) : ClBody (W.setCell ⟨r, 4, none⟩ (.int .i64 y)) r b g tok seg y own laid err := by
  unfold ClBody at h ⊢; rw [Frm.heap_set _ _ _ _ _ _ _ h]; simp
theorem ClBody.set5 (h : ClBody W r b g tok seg slot own laid err) (y : Bool) : ClBody (W.setCell ⟨r, 5, none⟩ (.bool y)) r b g tok seg slot y laid err := by
  unfold ClBody at h ⊢; rw [Frm.heap_set _ _ _ _ _ _ _ h]; simp
theorem ClBody.set6 (h : ClBody W r b g tok seg slot own laid err) (y : Int) : ClBody (W.setCell ⟨r, 6, none⟩ (.int .u64 y)) r b g tok seg slot own y err := by
  unfold ClBody at h ⊢; rw [Frm.heap_set _ _ _ _ _ _ _ h]; simp
theorem ClBody.set7 (h : ClBody W r b g tok seg slot own laid err) (y : Int) : ClBody (W.setCell ⟨r, 7, none⟩ (.int .i64 y)) r b g tok seg slot own laid y := by
  unfold ClBody at h ⊢; rw [Frm.heap_set _ _ _ _ _ _ _ h]; simp
def ClAt (W : World) (r b : Nat) (C : Cl) : Prop := ClBody W r b (nx r C.st) C.tok C.seg C.slot C.own C.laid C.err
theorem ClAt.turn {C : Cl} {F : List Nat} (h : ClAt W r b C) (ht : Frm.Turn F W W') (hn : r ∉ F) : ClAt W' r b C := ClBody.turn h ht hn
theorem turn_set (W : World) (r i : Nat) (v : Value) : Frm.Turn [r] W (W.setCell ⟨r, i, none⟩ v) := (Frm.Turn.refl _ W).setCell (p := ⟨r, i, none⟩) (.inl (by simp)) v
theorem turn_set2 (W : World) (r i j : Nat) (v u : Value) : Frm.Turn [r] W ((W.setCell ⟨r, i, none⟩ v).setCell ⟨r, j, none⟩ u) := (turn_set W r i v).setCell (p := ⟨r, j, none⟩) (.inl (by simp)) u

/-- fail. -/
theorem fail_any (h : ClBody W r b g tok seg slot own laid err) (e0 : Int) :
    Calls Try.prog 19 #[.pointer (some ⟨r, 0, none⟩), .int .i64 e0] W fun e w' => e = .returned (.tuple #[]) ∧ ClBody w' r b .nilFunc tok seg slot own laid e0 ∧ Frm.Turn [r] W w' := by
  have h7 := h.set7 e0
  have HE := Lib.hid (end_any r g (W.setCell ⟨r, 7, none⟩ (.int .i64 e0)) h7.cells.1 (h7.thaw 0))
  have H0 := Lib.hid (h7.set0 .nilFunc)
  obtain ⟨c0, c1, c2, c3, c4, c5, c6, c7⟩ := h.cells
  have f7 := h.thaw 7
  clear h7 h
  go_enter Try.func19, Try.ntmps19
  go_wp2_with (go_at_call 25; (with_reducible refine (HE.out).mono ?_); rintro e w1 ⟨rfl, rfl⟩)
  go_end0
  exact ⟨rfl, H0.out, turn_set2 _ _ _ _ _ _⟩
/-- enter. -/
theorem enter_any (h : ClBody W r b g tok seg slot own laid err) (y : Int) :
    Calls Try.prog 39 #[.pointer (some ⟨r, 0, none⟩), .int .u64 y] W fun e w' => e = .returned (.tuple #[]) ∧ ClBody w' r b (nx r 5) tok y slot own laid err ∧ Frm.Turn [r] W w' := by
  have h3 := h.set3 y
  have HE := Lib.hid (to_any r (nx r 5) g (W.setCell ⟨r, 3, none⟩ (.int .u64 y)) (nx_fn _ _) h3.cells.1 (h3.thaw 0))
  have H0 := Lib.hid (h3.set0 (nx r 5))
  have e5 : nx r 5 = .func (.func 29) #[.pointer (some ⟨r, 0, none⟩)] #[] := rfl
  rw [e5] at HE H0 ⊢
  have hmk := hmf
  obtain ⟨c0, c1, c2, c3, c4, c5, c6, c7⟩ := h.cells
  have f3 := h.thaw 3
  clear h3 h e5
  go_enter Try.func39, Try.ntmps39
  go_wp2_with (go_at_call 27; (with_reducible refine (HE.out).mono ?_); rintro e w1 ⟨rfl, rfl⟩)
  go_end0
  exact ⟨rfl, H0.out, turn_set2 _ _ _ _ _ _⟩
/-- turnTo. -/
theorem turn_any {C : Cl} (h : ClBody W r b g C.tok C.seg C.slot C.own C.laid C.err) (s : Nat) (hs : s < 1000) :
    Calls Try.prog 20 #[.pointer (some ⟨r, 0, none⟩), .int .i64 s] W fun e w' => e = .returned (.tuple #[]) ∧ ClAt w' r b (C.turn s) ∧ Frm.Turn [r] W w' := by
  unfold Cl.turn
  by_cases h1 : 255 ≤ s
  · rw [if_pos h1]
    have HS := Lib.hid (fun W => Dr.Segment_no s W (.inr (by omega)))
    have HF := Lib.hid (fail_any h 12)
    clear h h1
    generalize (s : Int) = x at HS ⊢
    go_enter Try.func20, Try.ntmps20
    go_wp2_with (first
      | (go_at_call 26; (with_reducible refine (HS.out _).mono ?_); rintro e w1 ⟨rfl, rfl⟩)
      | (go_at_call 19; (with_reducible refine (HF.out).mono ?_); rintro e w1 ⟨rfl, hb, hT⟩))
    refine bodyPost_ret (results_none rfl _ _ _) rfl ?_
    exact ⟨rfl, hb, hT⟩
  · rw [if_neg h1]
    have HS := Lib.hid (fun W => Segment_n s W (by omega))
    have h4 := h.set4 s
    have hst : (if ofN s = 0 then 1 else 5) = 1 ∨ (if ofN s = 0 then 1 else 5) = 5 := by split <;> simp
    have HE := Lib.hid (fun st => to_any r (nx r st) g (W.setCell ⟨r, 4, none⟩ (.int .i64 s)) (nx_fn _ _) h4.cells.1 (h4.thaw 0))
    have H0 := Lib.hid (fun st => h4.set0 (nx r st))
    have hmk := hmf
    obtain ⟨c0, c1, c2, c3, c4, c5, c6, c7⟩ := h.cells
    have f4 := h.thaw 4
    clear h4 h h1 hst
    by_cases hz : ofN s = 0
    · rw [if_pos hz]
      have HE1 := Lib.hid (HE.out 1)
      have H1 := Lib.hid (H0.out 1)
      have e5 : nx r 1 = .func (.func 28) #[.pointer (some ⟨r, 0, none⟩)] #[] := rfl
      rw [hz] at HS
      unfold ClAt
      dsimp only
      rw [e5] at HE1 H1 ⊢
      clear HE H0 e5 hz
      generalize (s : Int) = x at HS HE1 H1 ⊢
      go_enter Try.func20, Try.ntmps20
      go_wp2_with (first
        | (go_at_call 26; (with_reducible refine (HS.out _).mono ?_); rintro e w1 ⟨rfl, rfl⟩)
        | (go_at_call 27; (with_reducible refine (HE1.out).mono ?_); rintro e w1 ⟨rfl, rfl⟩))
      go_end0
      exact ⟨rfl, H1.out, turn_set2 _ _ _ _ _ _⟩
    · rw [if_neg hz]
      have HE1 := Lib.hid (HE.out 5)
      have H1 := Lib.hid (H0.out 5)
      have e5 : nx r 5 = .func (.func 29) #[.pointer (some ⟨r, 0, none⟩)] #[] := rfl
      have hz' : ((ofN s : Int) == 0) = false := by simpa using hz
      unfold ClAt
      dsimp only
      rw [e5] at HE1 H1 ⊢
      clear HE H0 e5 hz
      generalize (ofN s : Int) = y at HS hz'
      generalize (s : Int) = x at HS HE1 H1 ⊢
      go_enter Try.func20, Try.ntmps20
      go_wp2_with (first
        | (go_at_call 26; (with_reducible refine (HS.out _).mono ?_); rintro e w1 ⟨rfl, rfl⟩)
        | (go_at_call 27; (with_reducible refine (HE1.out).mono ?_); rintro e w1 ⟨rfl, rfl⟩))
      go_end0
      exact ⟨rfl, H1.out, turn_set2 _ _ _ _ _ _⟩
/-- The segment of the slot that is tried, and its fixed word. -/
theorem segment_any {s : Nat} (h : ClBody W r b g tok seg s own laid err) (hs : s < 255) :
    Calls Try.prog 46 #[.pointer (some ⟨r, 0, none⟩)] W fun e w' => e = .returned (.int .i64 (sgN s)) ∧ W = w' := by
  have HS := Lib.hid (fun W => Segment_n s W hs)
  obtain ⟨c0, c1, c2, c3, c4, c5, c6, c7⟩ := h.cells
  clear h
  generalize (ofN s : Int) = y at HS
  generalize (sgN s : Int) = z at HS ⊢
  generalize (s : Int) = x at HS c4
  go_enter Try.func46, Try.ntmps46
  go_wp2_with (go_at_call 26; (with_reducible refine (HS.out _).mono ?_); rintro e w1 ⟨rfl, rfl⟩)
  go_ret
  exact ⟨rfl, rfl⟩
theorem fixed_any {s : Nat} (h : ClBody W r b g tok seg s own laid err) (hs : s < 255) :
    Calls Try.prog 37 #[.pointer (some ⟨r, 0, none⟩)] W fun e w' => e = .returned (.agg #[.int .u64 0, .int .i64 (1 + (sgN s : Int))]) ∧ Frm.Turn [] W w' := by
  have HS := Lib.hid (fun o => segment_any (h.turn ((Frm.Turn.refl [] W).alloc o) (by simp)) hs)
  have HX := Lib.hid (fun W => Fixed_n (sgN s) W (sg_facts hs).1)
  have HA := Lib.hid (fun o => (Frm.Turn.refl [] W).alloc o)
  have HN := Lib.hid (fun (o : Obj) (w' : World) (hT : Frm.Turn [] (W.alloc o) w') => hT.keep (World.alloc_heap_new W o) (by simp))
  generalize (1 + (sgN s : Int)) = y at HX ⊢
  generalize (sgN s : Int) = z at HS HX
  clear h hs
  go_enter Try.func37, Try.ntmps37
  go_wp2_with (first
    | (go_at_call 46; (with_reducible refine (HS.out _).mono ?_); rintro e w1 ⟨rfl, rfl⟩)
    | (go_at_call 45; (with_reducible refine (HX.out _).mono ?_); rintro e w2 ⟨rfl, hT⟩; have HT2 := Lib.hid hT; have n2 := HN.out _ _ hT; have n20 := Frm.cell_row _ _ 0 _ _ _ n2; have n21 := Frm.cell_row _ _ 1 _ _ _ n2; have f20 := Frm.frozen_row _ _ 0 _ _ n2; have f21 := Frm.frozen_row _ _ 1 _ _ n2; have HN2 := Lib.hid n2; clear n2 hT))
  have h1 := Frm.heap_set _ _ 0 _ _ _ (.int .u64 0) HN2.out
  have h2 := Frm.heap_set _ _ 1 _ _ _ (.int .i64 y) h1
  have hld := load_adr (x := .int .u64 0) (y := .int .i64 y) (h2.trans (by simp))
  refine bodyPost_ret (v := .agg #[.int .u64 0, .int .i64 y]) (by simp [results, Try.results37, asAddr, hld, Act.put]) rfl ⟨rfl, ?_⟩
  exact ((((HA.out _).trans HT2.out (by simp)).setCell (p := ⟨W.heap.size, 0, none⟩) (.inr (Nat.le_refl _)) _).setCell (p := ⟨W.heap.size, 1, none⟩) (.inr (Nat.le_refl _)) _)
end Clm
end Go.Proofs.Ytgodlddbocmcmaa
