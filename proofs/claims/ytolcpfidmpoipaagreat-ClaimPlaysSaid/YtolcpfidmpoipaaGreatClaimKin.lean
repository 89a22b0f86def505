/- A claim in memory; its calls that touch no arena. -/
/- A claim's steps: each of them one access of the arena. -/
/- A claim's steps: take, lay. -/
/- A claim made, stepped, asked. -/
/- One that claims beside its arena; first of the laws. -/
/- An arena beside blocks that it leaves alone; the document's words of slots. -/
import Derived.Test.YtolcpfidmpoipaaGreatClaimDir
import Derived.Test.YtolcpfidmpoipaaGreatClaimStep
import Derived.Test.YtolcpfidmpoipaaGreatArenaSin
import Derived.Test.YtolcpfidmpoipaaGreatPaceCall
import Derived.Deep.RegionWith
import Derived.RangeFuncRecord
import Derived.Laws.Rows
import Derived.Laws.MakeOwn
import Derived.Laws.OwnMore
set_option linter.unusedVariables false
set_option linter.unusedSimpArgs false
namespace Go.Proofs.YtolcpfidmpoipaaGreat
namespace Clm
open Go.RowKit Go.Maps Arn Pac

def structB (o : Option TypeDesc) : Bool := match o with | some (.struct _) => true | _ => false
theorem struct_of {o : Option TypeDesc} (h : structB o = true) : ∃ fs, o = some (.struct fs) := by
  unfold structB at h
  split at h
  · exact ⟨_, rfl⟩
  · cases h
theorem under_adr : structB (Tryz.prog.underlying 50) = true := by kernel_rfl
theorem info_adr : (Tryz.prog.info? 50).map (·.size) = some 2 := by kernel_rfl
/-- What a row of two words tells when it is loaded. -/
theorem load_adr {W : World} {k : Nat} {x y : Value} (h : W.heap[k]? = some (.cells #[x, y] 50 (0, 0))) : (loadVar 50 ⟨k, 0, none⟩).run Tryz.prog W = .ok (.agg #[x, y]) W := by
  obtain ⟨fs, hfs⟩ := struct_of under_adr
  exact run_loadVar_row W k _ _ #[x, y] (0, 0) (.struct fs) h hfs rfl info_adr
/-- What comes next in the state st. -/
def nx (r st : Nat) : Value :=
  if st = 1 then .func (.func 43) #[.pointer (some ⟨r, 0, none⟩)] #[]
  else if st = 2 then .func (.func 62) #[.pointer (some ⟨r, 0, none⟩)] #[]
  else if st = 3 then .func (.func 83) #[.pointer (some ⟨r, 0, none⟩)] #[]
  else if st = 4 then .func (.func 93) #[.pointer (some ⟨r, 0, none⟩)] #[]
  else if st = 5 then .func (.func 44) #[.pointer (some ⟨r, 0, none⟩)] #[]
  else .nilFunc
theorem nx_fn (r st : Nat) : IsFn (nx r st) := by
  unfold nx
  repeat' split
  all_goals first | exact isFn_func _ _ _ | exact isFn_nil
/-- A claim's cells. -/
def ClBody (W : World) (r b : Nat) (g : Value) (tok seg slot : Int) (own : Bool) (laid err : Int) : Prop :=
  W.heap[r]? = some (.cells #[g, .pointer (some ⟨b, 0, none⟩), .int .u64 tok, .int .u64 seg, .int .i64 slot, .bool own, .int .u64 laid, .int .i64 err] 74 (0, 0))
variable {W W' : World} {r b : Nat} {g : Value} {tok seg slot : Int} {own : Bool} {laid err : Int}
theorem ClBody.cells (h : ClBody W r b g tok seg slot own laid err) : W.cell? ⟨r, 0, none⟩ = some g ∧ W.cell? ⟨r, 1, none⟩ = some (.pointer (some ⟨b, 0, none⟩)) ∧ W.cell? ⟨r, 2, none⟩ = some (.int .u64 tok) ∧ W.cell? ⟨r, 3, none⟩ = some (.int .u64 seg) ∧
    W.cell? ⟨r, 4, none⟩ = some (.int .i64 slot) ∧ W.cell? ⟨r, 5, none⟩ = some (.bool own) ∧ W.cell? ⟨r, 6, none⟩ = some (.int .u64 laid) ∧ W.cell? ⟨r, 7, none⟩ = some (.int .i64 err) := by
  unfold ClBody at h
  refine ⟨?_, ?_, ?_, ?_, ?_, ?_, ?_, ?_⟩ <;> simp [World.cell?, h]
theorem ClBody.thaw (h : ClBody W r b g tok seg slot own laid err) (i : Nat) : W.frozen? ⟨r, i, none⟩ = false := Frm.frozen_row W r i _ _ h
theorem ClBody.turn {F : List Nat} (h : ClBody W r b g tok seg slot own laid err) (ht : Frm.Turn F W W') (hn : r ∉ F) : ClBody W' r b g tok seg slot own laid err := ht.keep h hn
theorem ClBody.lt (h : ClBody W r b g tok seg slot own laid err) : r < W.heap.size := (Array.getElem?_eq_some_iff.1 h).1
theorem ClBody.set0 (h : ClBody W r b g tok seg slot own laid err) (y : Value) : ClBody (W.setCell ⟨r, 0, none⟩ y) r b y tok seg slot own laid err := by
  unfold ClBody at h ⊢; rw [Frm.heap_set _ _ _ _ _ _ _ h]; simp
theorem ClBody.set3 (h : ClBody W r b g tok seg slot own laid err) (y : Int) : ClBody (W.setCell ⟨r, 3, none⟩ (.int .u64 y)) r b g tok y slot own laid err := by
  unfold ClBody at h ⊢; rw [Frm.heap_set _ _ _ _ _ _ _ h]; simp
theorem ClBody.set4 (h : ClBody W r b g tok seg slot own laid err) (y : Int) : ClBody (W.setCell ⟨r, 4, none⟩ (.int .i64 y)) r b g tok seg y own laid err := by
  unfold ClBody at h ⊢; rw [Frm.heap_set _ _ _ _ _ _ _ h]; simp
theorem ClBody.set5 (h : ClBody W r b g tok seg slot own laid err) (y : Bool) : ClBody (W.setCell ⟨r, 5, none⟩ (.bool y)) r b g tok seg slot y laid err := by
  unfold ClBody at h ⊢; rw [Frm.heap_set _ _ _ _ _ _ _ h]; simp
theorem ClBody.set6 (h : ClBody W r b g tok seg slot own laid err) (y : Int) : ClBody (W.setCell ⟨r, 6, none⟩ (.int .u64 y)) r b g tok seg slot own y err := by
  unfold ClBody at h ⊢; rw [Frm.heap_set _ _ _ _ _ _ _ h]; simp
theorem ClBody.set7 (h : ClBody W r b g tok seg slot own laid err) (y : Int) : ClBody (W.setCell ⟨r, 7, none⟩ (.int .i64 y)) r b g tok seg slot own laid y := by
  unfold ClBody at h ⊢; rw [Frm.heap_set _ _ _ _ _ _ _ h]; simp
def ClAt (W : World) (r b : Nat) (C : Cl) : Prop := ClBody W r b (nx r C.st) C.tok C.seg C.slot C.own C.laid C.err
theorem ClAt.turn {C : Cl} {F : List Nat} (h : ClAt W r b C) (ht : Frm.Turn F W W') (hn : r ∉ F) : ClAt W' r b C := ClBody.turn h ht hn
theorem turn_set (W : World) (r i : Nat) (v : Value) : Frm.Turn [r] W (W.setCell ⟨r, i, none⟩ v) := (Frm.Turn.refl _ W).setCell (p := ⟨r, i, none⟩) (.inl (by simp)) v
theorem turn_set2 (W : World) (r i j : Nat) (v u : Value) : Frm.Turn [r] W ((W.setCell ⟨r, i, none⟩ v).setCell ⟨r, j, none⟩ u) := (turn_set W r i v).setCell (p := ⟨r, j, none⟩) (.inl (by simp)) u

/-- fail. -/
theorem fail_any (h : ClBody W r b g tok seg slot own laid err) (e0 : Int) :
    Calls Tryz.prog 22 #[.pointer (some ⟨r, 0, none⟩), .int .i64 e0] W fun e w' => e = .returned (.tuple #[]) ∧ ClBody w' r b .nilFunc tok seg slot own laid e0 ∧ Frm.Turn [r] W w' := by
  have h7 := h.set7 e0
  have HE := Lib.hid (end_any r g (W.setCell ⟨r, 7, none⟩ (.int .i64 e0)) h7.cells.1 (h7.thaw 0))
  have H0 := Lib.hid (h7.set0 .nilFunc)
  obtain ⟨c0, c1, c2, c3, c4, c5, c6, c7⟩ := h.cells
  have f7 := h.thaw 7
  clear h7 h
  go_enter Tryz.func22, Tryz.ntmps22
  go_wp2_with (go_at_call 40; (with_reducible refine (HE.out).mono ?_); rintro e w1 ⟨rfl, rfl⟩)
  go_end0
  exact ⟨rfl, H0.out, turn_set2 _ _ _ _ _ _⟩
/-- enter. -/
theorem enter_any (h : ClBody W r b g tok seg slot own laid err) (y : Int) :
    Calls Tryz.prog 63 #[.pointer (some ⟨r, 0, none⟩), .int .u64 y] W fun e w' => e = .returned (.tuple #[]) ∧ ClBody w' r b (nx r 5) tok y slot own laid err ∧ Frm.Turn [r] W w' := by
  have h3 := h.set3 y
  have HE := Lib.hid (to_any r (nx r 5) g (W.setCell ⟨r, 3, none⟩ (.int .u64 y)) (nx_fn _ _) h3.cells.1 (h3.thaw 0))
  have H0 := Lib.hid (h3.set0 (nx r 5))
  have e5 : nx r 5 = .func (.func 44) #[.pointer (some ⟨r, 0, none⟩)] #[] := rfl
  rw [e5] at HE H0 ⊢
  have hmk := hmf
  obtain ⟨c0, c1, c2, c3, c4, c5, c6, c7⟩ := h.cells
  have f3 := h.thaw 3
  clear h3 h e5
  go_enter Tryz.func63, Tryz.ntmps63
  go_wp2_with (go_at_call 42; (with_reducible refine (HE.out).mono ?_); rintro e w1 ⟨rfl, rfl⟩)
  go_end0
  exact ⟨rfl, H0.out, turn_set2 _ _ _ _ _ _⟩
/-- turnTo. -/
theorem turn_any {C : Cl} (h : ClBody W r b g C.tok C.seg C.slot C.own C.laid C.err) (s : Nat) (hs : s < 1000) :
    Calls Tryz.prog 23 #[.pointer (some ⟨r, 0, none⟩), .int .i64 s] W fun e w' => e = .returned (.tuple #[]) ∧ ClAt w' r b (C.turn s) ∧ Frm.Turn [r] W w' := by
  unfold Cl.turn
  by_cases h1 : 255 ≤ s
  · rw [if_pos h1]
    have HS := Lib.hid (fun W => Dr.Segment_no s W (.inr (by omega)))
    have HF := Lib.hid (fail_any h 12)
    clear h h1
    generalize (s : Int) = x at HS ⊢
    go_enter Tryz.func23, Tryz.ntmps23
    go_wp2_with (first
      | (go_at_call 41; (with_reducible refine (HS.out _).mono ?_); rintro e w1 ⟨rfl, rfl⟩)
      | (go_at_call 22; (with_reducible refine (HF.out).mono ?_); rintro e w1 ⟨rfl, hb, hT⟩))
    refine bodyPost_ret (results_none rfl _ _ _) rfl ?_
    exact ⟨rfl, hb, hT⟩
  · rw [if_neg h1]
    have HS := Lib.hid (fun W => Segment_n s W (by omega))
    have h4 := h.set4 s
    have hst : (if ofN s = 0 then 1 else 5) = 1 ∨ (if ofN s = 0 then 1 else 5) = 5 := by split <;> simp
    have HE := Lib.hid (fun st => to_any r (nx r st) g (W.setCell ⟨r, 4, none⟩ (.int .i64 s)) (nx_fn _ _) h4.cells.1 (h4.thaw 0))
    have H0 := Lib.hid (fun st => h4.set0 (nx r st))
    have hmk := hmf
    obtain ⟨c0, c1, c2, c3, c4, c5, c6, c7⟩ := h.cells
    have f4 := h.thaw 4
    clear h4 h h1 hst
    by_cases hz : ofN s = 0
    · rw [if_pos hz]
      have HE1 := Lib.hid (HE.out 1)
      have H1 := Lib.hid (H0.out 1)
      have e5 : nx r 1 = .func (.func 43) #[.pointer (some ⟨r, 0, none⟩)] #[] := rfl
      rw [hz] at HS
      unfold ClAt
      dsimp only
      rw [e5] at HE1 H1 ⊢
      clear HE H0 e5 hz
      generalize (s : Int) = x at HS HE1 H1 ⊢
      go_enter Tryz.func23, Tryz.ntmps23
      go_wp2_with (first
        | (go_at_call 41; (with_reducible refine (HS.out _).mono ?_); rintro e w1 ⟨rfl, rfl⟩)
        | (go_at_call 42; (with_reducible refine (HE1.out).mono ?_); rintro e w1 ⟨rfl, rfl⟩))
      go_end0
      exact ⟨rfl, H1.out, turn_set2 _ _ _ _ _ _⟩
    · rw [if_neg hz]
      have HE1 := Lib.hid (HE.out 5)
      have H1 := Lib.hid (H0.out 5)
      have e5 : nx r 5 = .func (.func 44) #[.pointer (some ⟨r, 0, none⟩)] #[] := rfl
      have hz' : ((ofN s : Int) == 0) = false := by simpa using hz
      unfold ClAt
      dsimp only
      rw [e5] at HE1 H1 ⊢
      clear HE H0 e5 hz
      generalize (ofN s : Int) = y at HS hz'
      generalize (s : Int) = x at HS HE1 H1 ⊢
      go_enter Tryz.func23, Tryz.ntmps23
      go_wp2_with (first
        | (go_at_call 41; (with_reducible refine (HS.out _).mono ?_); rintro e w1 ⟨rfl, rfl⟩)
        | (go_at_call 42; (with_reducible refine (HE1.out).mono ?_); rintro e w1 ⟨rfl, rfl⟩))
      go_end0
      exact ⟨rfl, H1.out, turn_set2 _ _ _ _ _ _⟩
/-- The segment of the slot that is tried, and its fixed word. -/
theorem segment_any {s : Nat} (h : ClBody W r b g tok seg s own laid err) (hs : s < 255) :
    Calls Tryz.prog 80 #[.pointer (some ⟨r, 0, none⟩)] W fun e w' => e = .returned (.int .i64 (sgN s)) ∧ W = w' := by
  have HS := Lib.hid (fun W => Segment_n s W hs)
  obtain ⟨c0, c1, c2, c3, c4, c5, c6, c7⟩ := h.cells
  clear h
  generalize (ofN s : Int) = y at HS
  generalize (sgN s : Int) = z at HS ⊢
  generalize (s : Int) = x at HS c4
  go_enter Tryz.func80, Tryz.ntmps80
  go_wp2_with (go_at_call 41; (with_reducible refine (HS.out _).mono ?_); rintro e w1 ⟨rfl, rfl⟩)
  go_ret
  exact ⟨rfl, rfl⟩
theorem fixed_any {s : Nat} (h : ClBody W r b g tok seg s own laid err) (hs : s < 255) :
    Calls Tryz.prog 61 #[.pointer (some ⟨r, 0, none⟩)] W fun e w' => e = .returned (.agg #[.int .u64 0, .int .i64 (1 + (sgN s : Int))]) ∧ Frm.Turn [] W w' := by
  have HS := Lib.hid (fun o => segment_any (h.turn ((Frm.Turn.refl [] W).alloc o) (by simp)) hs)
  have HX := Lib.hid (fun W => Fixed_n (sgN s) W (sg_facts hs).1)
  have HA := Lib.hid (fun o => (Frm.Turn.refl [] W).alloc o)
  have HN := Lib.hid (fun (o : Obj) (w' : World) (hT : Frm.Turn [] (W.alloc o) w') => hT.keep (World.alloc_heap_new W o) (by simp))
  generalize (1 + (sgN s : Int)) = y at HX ⊢
  generalize (sgN s : Int) = z at HS HX
  clear h hs
  go_enter Tryz.func61, Tryz.ntmps61
  go_wp2_with (first
    | (go_at_call 80; (with_reducible refine (HS.out _).mono ?_); rintro e w1 ⟨rfl, rfl⟩)
    | (go_at_call 79; (with_reducible refine (HX.out _).mono ?_); rintro e w2 ⟨rfl, hT⟩; have HT2 := Lib.hid hT; have n2 := HN.out _ _ hT; have n20 := Frm.cell_row _ _ 0 _ _ _ n2; have n21 := Frm.cell_row _ _ 1 _ _ _ n2; have f20 := Frm.frozen_row _ _ 0 _ _ n2; have f21 := Frm.frozen_row _ _ 1 _ _ n2; have HN2 := Lib.hid n2; clear n2 hT))
  have h1 := Frm.heap_set _ _ 0 _ _ _ (.int .u64 0) HN2.out
  have h2 := Frm.heap_set _ _ 1 _ _ _ (.int .i64 y) h1
  have hld := load_adr (x := .int .u64 0) (y := .int .i64 y) (h2.trans (by simp))
  refine bodyPost_ret (v := .agg #[.int .u64 0, .int .i64 y]) (by simp [results, Tryz.results61, asAddr, hld, Act.put]) rfl ⟨rfl, ?_⟩
  exact ((((HA.out _).trans HT2.out (by simp)).setCell (p := ⟨W.heap.size, 0, none⟩) (.inr (Nat.le_refl _)) _).setCell (p := ⟨W.heap.size, 1, none⟩) (.inr (Nat.le_refl _)) _)
end Clm
end Go.Proofs.YtolcpfidmpoipaaGreat

set_option linter.unusedVariables false
set_option linter.unusedSimpArgs false
namespace Go.Proofs.YtolcpfidmpoipaaGreat
namespace Clm
open Go.RowKit Go.Maps Arn Pac

variable {w W W' : World} {r b n : Nat} {M : Mem} {A : Ar} {C : Cl} {g : Value}
/-- Behind a step of one that claims. -/
def ClAfter (w : World) (b r : Nat) (M : Mem) (A' : Ar) (n : Nat) (C' : Cl) (W w' : World) : Prop :=
  ∃ M', Sin w b M' A' n w' ∧ ClAt w' r b C' ∧ r ∉ M'.foot b ∧ Frm.Turn (r :: M.foot b) W w' ∧ ∀ k, k ∈ M'.foot b → k ∈ M.foot b ∨ W.heap.size ≤ k
/-- .. out of what the arena's call leaves (W1 to W2), and what is put into the claim behind it. -/
theorem after_of {W1 W2 W3 : World} {A' : Ar} {m : Nat} {C' : Cl} (hr : r ∉ M.foot b) (hl : r < W.heap.size) (hw : w.heap.size ≤ r) (h1 : Frm.Turn [] W W1) (h2 : After w b M A' m W1 W2) (h3 : Frm.Turn [r] W2 W3) (hc : ClAt W3 r b C') : ClAfter w b r M A' m C' W W3 := by
  obtain ⟨M', hs, hT, hf⟩ := h2
  have s1 := h1.size
  have hr' : r ∉ M'.foot b := fun hk => by
    rcases hf r hk with e | e
    · exact hr e
    · omega
  refine ⟨M', hs.apart h3 (fun k hk hk' => by simp at hk'; subst hk'; exact hr' hk) (fun k hk => by simp at hk; subst hk; exact hw), hc, hr', ?_, fun k hk => (hf k hk).imp id (fun e => by omega)⟩
  refine (h1.mono (by simp)).trans ((hT.mono (fun k hk => List.mem_cons_of_mem r hk)).trans h3 (fun k hk => .inl (by simp at hk; subst hk; simp))) (fun k hk => .inl hk)
theorem wf_small {x : Int} (h0 : 0 ≤ x) (h1 : x ≤ 100000) : (Lit.int .i64 x).wf = true := by
  simp [Lit.wf, IntKind.min, IntKind.max, IntKind.bits, IntKind.signed]; omega
theorem w64_zero : W64 0 := by unfold W64; omega
theorem body_after {A' : Ar} {m : Nat} {W1 W2 : World} {tok seg slot : Int} {own : Bool} {laid err : Int} (hr : r ∉ M.foot b) (hc : ClBody W r b g tok seg slot own laid err) (h1 : Frm.Turn [] W W1) (h2 : After w b M A' m W1 W2) : ClBody W2 r b g tok seg slot own laid err := by
  obtain ⟨M', hs, hT, hf⟩ := h2
  exact (hc.turn h1 (by simp)).turn hT hr
set_option maxRecDepth 100000 in
set_option maxHeartbeats 1000000 in
theorem find_any (h : Sin w b M A n W) (hn : n ≤ 10000000) (hc : ClBody W r b g C.tok C.seg C.slot C.own C.laid C.err) (hr : r ∉ M.foot b) (hw : w.heap.size ≤ r) (hs : C.slot < 255) :
    Calls Tryz.prog 43 #[.pointer (some ⟨r, 0, none⟩)] W fun e w' => e = .returned (.tuple #[]) ∧
      ClAfter w b r M (A.read 0 (1 + sgN C.slot)).1 (n + 1) (if (A.read 0 (1 + sgN C.slot)).2.1 = 0 then { C with st := 2 } else { C with seg := (A.read 0 (1 + sgN C.slot)).2.1, st := 5 }) W w' := by
  have hg := (sg_facts hs).1
  have HFX := Lib.hid (fixed_any (hc.turn ((Frm.Turn.refl [] W).drew) (by simp)) hs)
  have HRD := Lib.hid (fun W' (hT : Frm.Turn [] W W') => sin_read (h.step hT) (by omega) 0 (1 + (sgN C.slot : Int)) w64_zero (wf_small (by omega) (by omega)))
  obtain ⟨y, HY⟩ : ∃ y, Hid (y = 1 + (sgN C.slot : Int)) := ⟨_, Lib.hid rfl⟩
  rw [← HY.out] at HFX HRD ⊢
  obtain ⟨val, HV⟩ : ∃ v, Hid (v = (A.read 0 y).2.1) := ⟨_, Lib.hid rfl⟩
  obtain ⟨ee, HE⟩ : ∃ v, Hid (v = (A.read 0 y).2.2) := ⟨_, Lib.hid rfl⟩
  obtain ⟨A', HA⟩ : ∃ v, Hid (v = (A.read 0 y).1) := ⟨_, Lib.hid rfl⟩
  rw [← HV.out, ← HE.out, ← HA.out] at HRD
  rw [← HV.out, ← HA.out]
  have HC := Lib.hid hc
  have HR := Lib.hid hr
  have HW := Lib.hid hw
  obtain ⟨c0, c1, c2, c3, c4, c5, c6, c7⟩ := hc.cells
  clear h hc hr hw hs hg HV HE HA HY
  have hmk := hmf
  go_enter Tryz.func43, Tryz.ntmps43
  go_wp2_with fail
  go_cut [2] (fun s2 W2 => s2 = .int .u64 val ∧ ∃ W1, Frm.Turn [] W W1 ∧ After w b M A' (n + 1) W1 W2)
  case first =>
    go_region_with (first
      | (go_at_call 61; (with_reducible refine (HFX.out).mono ?_); rintro e w1 ⟨rfl, hT⟩; have HT1 := Lib.hid (((Frm.Turn.refl [] W).drew).trans hT (by simp)); have d1 := (HC.out.turn HT1.out (by simp)).cells.2.1; clear hT)
      | (go_at_call 60; (with_reducible refine (HRD.out _ HT1.out).mono ?_); rintro e w2 ⟨rfl, ha⟩; have HA2 := Lib.hid ha; clear ha))
    all_goals go_wp2_with fail
    all_goals go_meet
    all_goals exact ⟨rfl, _, HT1.out, HA2.out⟩
  case rest =>
    obtain ⟨rfl, W1, hT1, ha⟩ := hcut
    have hb := body_after HR.out HC.out hT1 ha
    have HT1 := Lib.hid hT1
    have HAF := Lib.hid ha
    have HB := Lib.hid hb
    obtain ⟨k0, k1, k2, k3, k4, k5, k6, k7⟩ := hb.cells
    by_cases hv : val = 0
    · have HV := Lib.hid hv
      have hv' : (val == 0) = true := by simpa using hv
      have HE := Lib.hid (to_any r (nx r 2) g wc (nx_fn _ _) k0 (hb.thaw 0))
      have e5 : nx r 2 = .func (.func 62) #[.pointer (some ⟨r, 0, none⟩)] #[] := rfl
      have H0 := Lib.hid (hb.set0 (nx r 2))
      rw [e5] at HE
      clear hb ha hT1 e5 hv
      go_wp2_with (go_at_call 42; (with_reducible refine (HE.out).mono ?_); rintro e w1 ⟨rfl, rfl⟩)
      refine bodyPost_ret (results_none rfl _ _ _) rfl ⟨rfl, ?_⟩
      exact after_of HR.out HC.out.lt HW.out HT1.out HAF.out (turn_set _ _ _ _) H0.out
    · have HV := Lib.hid hv
      have hv' : (val == 0) = false := by simpa using hv
      have HE := Lib.hid (enter_any hb val)
      clear hb ha hT1 hv
      go_wp2_with (go_at_call 63; (with_reducible refine (HE.out).mono ?_); rintro e w1 ⟨rfl, hb, hT⟩)
      go_end0
      exact ⟨rfl, after_of HR.out HC.out.lt HW.out HT1.out HAF.out hT hb⟩
set_option maxRecDepth 100000 in
set_option maxHeartbeats 1000000 in
theorem hang_any (h : Sin w b M A n W) (hn : n ≤ 10000000) (hc : ClBody W r b g C.tok C.seg C.slot C.own C.laid C.err) (hr : r ∉ M.foot b) (hw : w.heap.size ≤ r) (hs : C.slot < 255) (hl : W64 C.laid) :
    Calls Tryz.prog 83 #[.pointer (some ⟨r, 0, none⟩)] W fun e w' => e = .returned (.tuple #[]) ∧
      ClAfter w b r M (A.swap 0 (1 + sgN C.slot) 0 C.laid).1 (n + 1) (if (A.swap 0 (1 + sgN C.slot) 0 C.laid).2.1 = true then { C with seg := C.laid, laid := 0, st := 5 } else { C with st := 4 }) W w' := by
  have hg := (sg_facts hs).1
  have HFX := Lib.hid (fixed_any (hc.turn ((Frm.Turn.refl [] W).drew) (by simp)) hs)
  have HRD := Lib.hid (fun W' (hT : Frm.Turn [] W W') => sin_swap (h.step hT) (by omega) 0 (1 + (sgN C.slot : Int)) 0 C.laid w64_zero (wf_small (by omega) (by omega)) hl)
  obtain ⟨y, HY⟩ : ∃ y, Hid (y = 1 + (sgN C.slot : Int)) := ⟨_, Lib.hid rfl⟩
  rw [← HY.out] at HFX HRD ⊢
  obtain ⟨val, HV⟩ : ∃ v, Hid (v = (A.swap 0 y 0 C.laid).2.1) := ⟨_, Lib.hid rfl⟩
  obtain ⟨ee, HE⟩ : ∃ v, Hid (v = (A.swap 0 y 0 C.laid).2.2) := ⟨_, Lib.hid rfl⟩
  obtain ⟨A', HA⟩ : ∃ v, Hid (v = (A.swap 0 y 0 C.laid).1) := ⟨_, Lib.hid rfl⟩
  rw [← HV.out, ← HE.out, ← HA.out] at HRD
  rw [← HV.out, ← HA.out]
  have HC := Lib.hid hc
  have HR := Lib.hid hr
  have HW := Lib.hid hw
  obtain ⟨c0, c1, c2, c3, c4, c5, c6, c7⟩ := hc.cells
  clear h hc hr hw hs hg HV HE HA HY hl
  have hmk := hmf
  go_enter Tryz.func83, Tryz.ntmps83
  go_wp2_with fail
  go_cut [2] (fun s2 W2 => s2 = .bool val ∧ ∃ W1, Frm.Turn [] W W1 ∧ After w b M A' (n + 1) W1 W2)
  case first =>
    go_region_with (first
      | (go_at_call 61; (with_reducible refine (HFX.out).mono ?_); rintro e w1 ⟨rfl, hT⟩; have HT1 := Lib.hid (((Frm.Turn.refl [] W).drew).trans hT (by simp)); have d1 := (HC.out.turn HT1.out (by simp)).cells.2.1; have d6 := (HC.out.turn HT1.out (by simp)).cells.2.2.2.2.2.2.1; clear hT)
      | (go_at_call 65; (with_reducible refine (HRD.out _ HT1.out).mono ?_); rintro e w2 ⟨rfl, ha⟩; have HA2 := Lib.hid ha; clear ha))
    all_goals go_wp2_with fail
    all_goals go_meet
    all_goals exact ⟨rfl, _, HT1.out, HA2.out⟩
  case rest =>
    obtain ⟨rfl, W1, hT1, ha⟩ := hcut
    have hb := body_after HR.out HC.out hT1 ha
    have HT1 := Lib.hid hT1
    have HAF := Lib.hid ha
    have HB := Lib.hid hb
    obtain ⟨k0, k1, k2, k3, k4, k5, k6, k7⟩ := hb.cells
    have g6 := hb.thaw 6
    cases val with
    | false =>
      have HE := Lib.hid (to_any r (nx r 4) g wc (nx_fn _ _) k0 (hb.thaw 0))
      have e5 : nx r 4 = .func (.func 93) #[.pointer (some ⟨r, 0, none⟩)] #[] := rfl
      have H0 := Lib.hid (hb.set0 (nx r 4))
      rw [e5] at HE
      clear hb ha hT1 e5
      go_wp2_with (go_at_call 42; (with_reducible refine (HE.out).mono ?_); rintro e w1 ⟨rfl, rfl⟩)
      refine bodyPost_ret (results_none rfl _ _ _) rfl ⟨rfl, ?_⟩
      exact after_of HR.out HC.out.lt HW.out HT1.out HAF.out (turn_set _ _ _ _) H0.out
    | true =>
      have HE := Lib.hid (enter_any (hb.set6 0) C.laid)
      clear hb ha hT1
      go_wp2_with (go_at_call 63; (with_reducible refine (HE.out).mono ?_); rintro e w1 ⟨rfl, hb, hT⟩)
      go_end0
      exact ⟨rfl, after_of HR.out HC.out.lt HW.out HT1.out HAF.out ((turn_set _ _ _ _).trans hT (fun k hk => .inl hk)) hb⟩
set_option maxRecDepth 100000 in
set_option maxHeartbeats 1000000 in
theorem free_any (h : Sin w b M A n W) (hn : n ≤ 10000000) (hc : ClBody W r b g C.tok C.seg C.slot C.own C.laid C.err) (hr : r ∉ M.foot b) (hw : w.heap.size ≤ r) (hl : W64 C.laid) :
    Calls Tryz.prog 93 #[.pointer (some ⟨r, 0, none⟩)] W fun e w' => e = .returned (.tuple #[]) ∧
      ClAfter w b r M (A.free C.laid).1 (n + 1) { C with laid := 0, st := 1 } W w' := by
  have HRD := Lib.hid (fun W' (hT : Frm.Turn [] W W') => sin_free (h.step hT) (by omega) C.laid hl)
  obtain ⟨ee, HE⟩ : ∃ v, Hid (v = (A.free C.laid).2) := ⟨_, Lib.hid rfl⟩
  obtain ⟨A', HA⟩ : ∃ v, Hid (v = (A.free C.laid).1) := ⟨_, Lib.hid rfl⟩
  rw [← HE.out, ← HA.out] at HRD
  rw [← HA.out]
  have HC := Lib.hid hc
  have HR := Lib.hid hr
  have HW := Lib.hid hw
  obtain ⟨c0, c1, c2, c3, c4, c5, c6, c7⟩ := hc.cells
  have HT1 := Lib.hid ((Frm.Turn.refl [] W).drew)
  clear h hc hr hw HE HA hl
  have hmk := hmf
  go_enter Tryz.func93, Tryz.ntmps93
  go_wp2_with fail
  go_cut [] (fun W2 => ∃ W1, Frm.Turn [] W W1 ∧ After w b M A' (n + 1) W1 W2)
  case first =>
    go_region_with (first
      | (go_at_call 97; (with_reducible refine (HRD.out _ HT1.out).mono ?_); rintro e w2 ⟨rfl, ha⟩; have HA2 := Lib.hid ha; clear ha))
    all_goals go_wp2_with fail
    all_goals go_meet
    all_goals exact ⟨_, HT1.out, HA2.out⟩
  case rest =>
    obtain ⟨W1, hT1, ha⟩ := hcut
    have hb := body_after HR.out HC.out hT1 ha
    have HT1 := Lib.hid hT1
    have HAF := Lib.hid ha
    have HB := Lib.hid hb
    obtain ⟨k0, k1, k2, k3, k4, k5, k6, k7⟩ := hb.cells
    have g6 := hb.thaw 6
    have h6 := hb.set6 0
    have HE := Lib.hid (to_any r (nx r 1) g (wc.setCell ⟨r, 6, none⟩ (.int .u64 0)) (nx_fn _ _) h6.cells.1 (h6.thaw 0))
    have e5 : nx r 1 = .func (.func 43) #[.pointer (some ⟨r, 0, none⟩)] #[] := rfl
    have H0 := Lib.hid (h6.set0 (nx r 1))
    rw [e5] at HE
    clear hb ha hT1 e5 h6
    go_wp2_with (go_at_call 42; (with_reducible refine (HE.out).mono ?_); rintro e w1 ⟨rfl, rfl⟩)
    go_end0
    exact ⟨rfl, after_of HR.out HC.out.lt HW.out HT1.out HAF.out (turn_set2 _ _ _ _ _ _) H0.out⟩
end Clm
end Go.Proofs.YtolcpfidmpoipaaGreat

set_option linter.unusedVariables false
set_option linter.unusedSimpArgs false
namespace Go.Proofs.YtolcpfidmpoipaaGreat
namespace Clm
open Go.RowKit Go.Maps Arn Pac

variable {w W W' : World} {r b n : Nat} {M : Mem} {A : Ar} {C : Cl} {g : Value}
theorem body_turn {W W' : World} {F : List Nat} {tok seg slot : Int} {own : Bool} {laid err : Int} (h : ClBody W r b g tok seg slot own laid err) (ht : Frm.Turn F W W') (hn : r ∉ F) : ClBody W' r b g tok seg slot own laid err := h.turn ht hn
set_option maxRecDepth 100000 in
set_option maxHeartbeats 1000000 in
theorem take_any (h : Sin w b M A n W) (hn : n ≤ 10000000) (hc : ClBody W r b g C.tok C.seg C.slot C.own C.laid C.err) (hr : r ∉ M.foot b) (hw : w.heap.size ≤ r) (hs : C.slot < 255) (ht : W64 C.tok) (hsg : W64 C.seg) (hz : C.seg ≠ 0) :
    Calls Tryz.prog 44 #[.pointer (some ⟨r, 0, none⟩)] W fun e w' => e = .returned (.tuple #[]) ∧
      ClAfter w b r M (A.swap C.seg (5 * ofN C.slot) 0 C.tok).1 (n + 1) (if (A.swap C.seg (5 * ofN C.slot) 0 C.tok).2.1 = true then { C with own := true, st := 0 } else ({ C with own := false } : Cl).turn (C.slot + 1)) W w' := by
  have hg := sg_facts hs
  have hz' : (C.seg != 0) = true := by simpa using hz
  have HWD := Lib.hid (fun W => Word_n C.seg C.slot W hs hz')
  have HRD := Lib.hid (fun W' (hT : Frm.Turn [] W W') => sin_swap (h.step hT) (by omega) C.seg (5 * (ofN C.slot : Int)) 0 C.tok hsg (wf_small (by omega) (by omega)) ht)
  obtain ⟨y, HY⟩ : ∃ y, Hid (y = 5 * (ofN C.slot : Int)) := ⟨_, Lib.hid rfl⟩
  rw [← HY.out] at HRD ⊢
  have HWD : Hid (∀ W, Calls Tryz.prog 64 #[.agg #[.int .u64 C.seg, .int .i64 C.slot], .int .i64 0] W fun e w' => e = .returned (.tuple #[.agg #[.int .u64 C.seg, .int .i64 y], .bool true]) ∧ Frm.Turn [] W w') := Lib.hid (fun W => by rw [HY.out]; exact HWD.out W)
  obtain ⟨val, HV⟩ : ∃ v, Hid (v = (A.swap C.seg y 0 C.tok).2.1) := ⟨_, Lib.hid rfl⟩
  obtain ⟨ee, HE⟩ : ∃ v, Hid (v = (A.swap C.seg y 0 C.tok).2.2) := ⟨_, Lib.hid rfl⟩
  obtain ⟨A', HA⟩ : ∃ v, Hid (v = (A.swap C.seg y 0 C.tok).1) := ⟨_, Lib.hid rfl⟩
  rw [← HV.out, ← HE.out, ← HA.out] at HRD
  rw [← HV.out, ← HA.out]
  have HC := Lib.hid hc
  have HR := Lib.hid hr
  have HW := Lib.hid hw
  have HS := Lib.hid hs
  obtain ⟨c0, c1, c2, c3, c4, c5, c6, c7⟩ := hc.cells
  have b0 : (0 : Int) ≤ (C.slot : Int) := by omega
  have b1 : (C.slot : Int) ≤ 254 := by omega
  clear h hc hr hw hs hg HV HE HA HY ht hsg hz hz'
  go_enter Tryz.func44, Tryz.ntmps44
  go_upto_region 1 with (go_at_call 64; (with_reducible refine (HWD.out _).mono ?_); rintro e w1 ⟨rfl, hT⟩; have HT1 := Lib.hid hT; clear hT)
  have hT2 : Frm.Turn [] W (w1.alloc (.cells #[.int .u64 C.seg, .int .i64 y] 50)) := HT1.out.alloc _
  have hn2 := World.alloc_heap_new w1 (.cells #[.int .u64 C.seg, .int .i64 y] 50)
  generalize w1.heap.size = k2 at hn2 ⊢
  generalize w1.alloc (.cells #[.int .u64 C.seg, .int .i64 y] 50) = W2 at hT2 hn2 ⊢
  have p0 : W2.cell? ⟨k2, 0, none⟩ = some (.int .u64 C.seg) := (Frm.cell_row _ _ 0 _ _ _ hn2).trans rfl
  have p1 : W2.cell? ⟨k2, 1, none⟩ = some (.int .i64 y) := (Frm.cell_row _ _ 1 _ _ _ hn2).trans rfl
  obtain ⟨d0, d1, d2, d3, d4, d5, d6, d7⟩ := (HC.out.turn hT2 (by simp)).cells
  have HT2 := Lib.hid (hT2.drew)
  clear hT2 hn2
  go_cut [] (fun W5 => ∃ W1 Wx, Frm.Turn [] W W1 ∧ After w b M A' (n + 1) W1 Wx ∧ W5 = Wx.setCell ⟨r, 5, none⟩ (.bool val))
  case first =>
    go_region_with (first
      | (go_at_call 65; (with_reducible refine (HRD.out _ HT2.out).mono ?_); rintro e w3 ⟨rfl, ha⟩; have HA2 := Lib.hid ha; have hb := body_after HR.out HC.out HT2.out ha; have m5 := hb.cells.2.2.2.2.2.1; have f5 := hb.thaw 5; clear hb ha))
    all_goals go_wp2_with fail
    all_goals go_meet
    all_goals exact ⟨_, _, HT2.out, HA2.out, rfl⟩
  case rest =>
    obtain ⟨W1, Wx, hT1, ha, rfl⟩ := hcut
    have hb := (body_after HR.out HC.out hT1 ha).set5 val
    have HT3 := Lib.hid hT1
    have HAF := Lib.hid ha
    have HB := Lib.hid hb
    obtain ⟨k0, k1, k2, k3, k4, k5, k6, k7⟩ := hb.cells
    cases val with
    | true =>
      have HE := Lib.hid (end_any r g (Wx.setCell ⟨r, 5, none⟩ (.bool true)) k0 (hb.thaw 0))
      have H0 := Lib.hid (hb.set0 .nilFunc)
      clear hb ha hT1
      go_wp2_with (go_at_call 40; (with_reducible refine (HE.out).mono ?_); rintro e w1 ⟨rfl, rfl⟩)
      refine bodyPost_ret (results_none rfl _ _ _) rfl ⟨rfl, ?_⟩
      exact after_of HR.out HC.out.lt HW.out HT3.out HAF.out (turn_set2 _ _ _ _ _ _) H0.out
    | false =>
      have HE : Hid (Calls Tryz.prog 23 #[.pointer (some ⟨r, 0, none⟩), .int .i64 ((C.slot : Int) + 1)] (Wx.setCell ⟨r, 5, none⟩ (.bool false)) fun e w' => e = .returned (.tuple #[]) ∧ ClAt w' r b (({ C with own := false } : Cl).turn (C.slot + 1)) ∧ Frm.Turn [r] (Wx.setCell ⟨r, 5, none⟩ (.bool false)) w') := Lib.hid (by
        have := turn_any (C := { C with own := false }) hb (C.slot + 1) (by have := HS.out; omega)
        rw [show ((C.slot + 1 : Nat) : Int) = (C.slot : Int) + 1 by omega] at this
        exact this)
      clear hb ha hT1
      go_wp2_with (go_at_call 23; (with_reducible refine (HE.out).mono ?_); rintro e w1 ⟨rfl, hb, hT⟩)
      go_end0
      exact ⟨rfl, after_of HR.out HC.out.lt HW.out HT3.out HAF.out ((turn_set _ _ _ _).trans hT (fun k hk => .inl hk)) hb⟩
/-- A block of noughts that was just made. -/
theorem noughts (n : Nat) (W : World) (t : TypeId) : WordsAt (W.alloc (.cells (madeCells #[.int .u64 0] n) t)) (.slice (some ⟨W.heap.size, 0, none⟩) n n) (List.replicate n 0) := by
  refine .inr ⟨⟨W.heap.size, 0, none⟩, n, by simp, fun j u hu => ?_⟩
  have h := World.alloc_heap_new W (.cells (madeCells #[.int .u64 0] n) t)
  have ha : (⟨W.heap.size, 0, none⟩ : Addr).add j = ⟨W.heap.size, j, none⟩ := by unfold Addr.add; split <;> simp_all
  rw [ha, Frm.cell_row _ _ _ _ _ _ h, ← Array.getElem?_toList, toList_madeCells_one]
  simp [u64s] at hu
  simpa using hu
theorem made_words (n : Nat) (hn : n ≤ 60000) (w : World) : (Instr.makeSlice 61 (.int .i64 (n : Int)) (.int .i64 (n : Int))).run Tryz.prog w = .ok (.slice (some ⟨w.heap.size, 0, none⟩) n n) (w.alloc (.cells (madeCells #[.int .u64 0] n) 28)) := by
  obtain ⟨i, h1, h2, h3, h4⟩ := info_parts info_u64
  have hr := run_make (P := Tryz.prog) w 61 28 i (.int .u64 0) under_u64s h1 h2 .i64 .i64 n n (by omega) (by omega) (by rw [h4]; omega) (by omega)
  simp only [Int.toNat_natCast, h3, Nat.mul_one] at hr
  exact hr
set_option maxRecDepth 100000 in
set_option maxHeartbeats 1000000 in
theorem lay_any (h : Sin w b M A n W) (hn : n ≤ 10000000) (hc : ClBody W r b g C.tok C.seg C.slot C.own C.laid C.err) (hr : r ∉ M.foot b) (hw : w.heap.size ≤ r) (hs : C.slot < 255) :
    Calls Tryz.prog 62 #[.pointer (some ⟨r, 0, none⟩)] W fun e w' => e = .returned (.tuple #[]) ∧
      ClAfter w b r M (A.lay (List.replicate (7 * 2 ^ sgN C.slot) 0)).1 (n + 1) (if (A.lay (List.replicate (7 * 2 ^ sgN C.slot) 0)).2.2 = 0 then { C with laid := (A.lay (List.replicate (7 * 2 ^ sgN C.slot) 0)).2.1, st := 3 } else { C with err := (A.lay (List.replicate (7 * 2 ^ sgN C.slot) 0)).2.2, st := 0 }) W w' := by
  have hg := sg_facts hs
  have HSG := Lib.hid (segment_any hc hs)
  have HSZ := Lib.hid (fun W => Size_n (sgN C.slot) W hg.1)
  have hm := fun w => made_words (7 * 2 ^ sgN C.slot) (by omega) w
  have HLY := Lib.hid (sin_lay (v := .slice (some ⟨W.heap.size, 0, none⟩) (7 * 2 ^ sgN C.slot) (7 * 2 ^ sgN C.slot)) (ws := List.replicate (7 * 2 ^ sgN C.slot) 0) (h.step ((Frm.Turn.refl [] W).alloc (.cells (madeCells #[.int .u64 0] (7 * 2 ^ sgN C.slot)) 28))) (by omega) (noughts _ W _) (fun _ k hk hk' => by
    simp [Value.ownBlock] at hk; subst hk; have := h.lt hk'; omega) (fun x hx => by rw [(List.mem_replicate.1 hx).2]; exact w64_zero))
  generalize 7 * 2 ^ sgN C.slot = z at HSZ hm HLY ⊢
  generalize hzg : (sgN C.slot : Int) = zg at HSG HSZ
  obtain ⟨val, HV⟩ : ∃ v, Hid (v = (A.lay (List.replicate z 0)).2.1) := ⟨_, Lib.hid rfl⟩
  obtain ⟨ee, HE⟩ : ∃ v, Hid (v = (A.lay (List.replicate z 0)).2.2) := ⟨_, Lib.hid rfl⟩
  obtain ⟨A', HA⟩ : ∃ v, Hid (v = (A.lay (List.replicate z 0)).1) := ⟨_, Lib.hid rfl⟩
  rw [← HV.out, ← HE.out, ← HA.out] at HLY
  rw [← HV.out, ← HE.out, ← HA.out]
  have HC := Lib.hid hc
  have HR := Lib.hid hr
  have HW := Lib.hid hw
  have HT1 := Lib.hid ((Frm.Turn.refl [] W).alloc (.cells (madeCells #[.int .u64 0] z) 28))
  obtain ⟨c0, c1, c2, c3, c4, c5, c6, c7⟩ := hc.cells
  have d1 := (HC.out.turn HT1.out (by simp)).cells.2.1
  clear h hc hr hw hs hg HV HE HA hzg
  have hmk := hmf
  go_enter Tryz.func62, Tryz.ntmps62
  go_upto_region 2 with (first
    | (go_at_call 80; (with_reducible refine (HSG.out).mono ?_); rintro e w1 ⟨rfl, rfl⟩)
    | (go_at_call 81; (with_reducible refine (HSZ.out _).mono ?_); rintro e w1 ⟨rfl, rfl⟩)
    | (go_at_call 82; (with_reducible refine (HLY.out).mono ?_); rintro e w1 ⟨rfl, ha⟩; have HAF := Lib.hid ha; have hb := body_after HR.out HC.out HT1.out ha; have HB := Lib.hid hb; obtain ⟨k0, k1, k2, k3, k4, k5, k6, k7⟩ := hb.cells; have g6 := hb.thaw 6; clear hb ha))
  by_cases hv : ee = 0
  · have hv' : (ee != 0) = false := by simpa using hv
    have h6 := HB.out.set6 val
    have HE := Lib.hid (to_any r (nx r 3) g (w1.setCell ⟨r, 6, none⟩ (.int .u64 val)) (nx_fn _ _) h6.cells.1 (h6.thaw 0))
    have e5 : nx r 3 = .func (.func 83) #[.pointer (some ⟨r, 0, none⟩)] #[] := rfl
    have H0 := Lib.hid (h6.set0 (nx r 3))
    rw [e5] at HE
    have HVV := Lib.hid hv
    clear e5 h6 hv
    go_wp2_with (go_at_call 42; (with_reducible refine (HE.out).mono ?_); rintro e w1 ⟨rfl, rfl⟩)
    go_end0
    first | rw [if_pos HVV.out] | skip
    exact ⟨rfl, after_of HR.out HC.out.lt HW.out HT1.out HAF.out (turn_set2 _ _ _ _ _ _) H0.out⟩
  · have hv' : (ee != 0) = true := by simpa using hv
    have HE := Lib.hid (fail_any HB.out ee)
    have HVV := Lib.hid hv
    clear hv
    go_wp2_with (go_at_call 22; (with_reducible refine (HE.out).mono ?_); rintro e w1 ⟨rfl, hb, hT⟩)
    refine bodyPost_ret (results_none rfl _ _ _) rfl ⟨rfl, ?_⟩
    first | rw [if_neg HVV.out] | skip
    exact after_of HR.out HC.out.lt HW.out HT1.out HAF.out hT hb
end Clm
end Go.Proofs.YtolcpfidmpoipaaGreat

set_option linter.unusedVariables false
set_option linter.unusedSimpArgs false
namespace Go.Proofs.YtolcpfidmpoipaaGreat
namespace Clm
open Go.RowKit Go.Maps Arn Pac

variable {w W W' : World} {r b n : Nat} {M : Mem} {A : Ar} {C : Cl} {g : Value}
theorem enters_find : Enters Tryz.prog 43 := enters_of Tryz.func43 (by kernel_rfl) rfl
theorem enters_lay : Enters Tryz.prog 62 := enters_of Tryz.func62 (by kernel_rfl) rfl
theorem enters_hang : Enters Tryz.prog 83 := enters_of Tryz.func83 (by kernel_rfl) rfl
theorem enters_free : Enters Tryz.prog 93 := enters_of Tryz.func93 (by kernel_rfl) rfl
theorem enters_take : Enters Tryz.prog 44 := enters_of Tryz.func44 (by kernel_rfl) rfl
/-- What a step needs to know of a claim. -/
structure Cl.Fit (C : Cl) : Prop where
  st : C.st ≤ 5
  slot : C.slot < 255
  tok : W64 C.tok
  seg : W64 C.seg
  laid : W64 C.laid
  five : C.st = 5 → C.seg ≠ 0
theorem Cl.Good.fit {h : Nat → Int} (hC : C.Good h) : C.Fit := ⟨hC.st, hC.slot, hC.tok64, hC.seg64, hC.laid64, fun e => (hC.seg (.inl e)).2⟩
theorem gear_any (h : Sin w b M A n W) (hn : n ≤ 10000000) (hc : ClAt W r b C) (hr : r ∉ M.foot b) (hw : w.heap.size ≤ r) (hf : C.Fit) :
    Calls Tryz.prog 29 #[.pointer (some ⟨r, 0, none⟩)] W fun e w' => e = .returned (.tuple #[]) ∧ ClAfter w b r M (C.step A).1 (n + 1) (C.step A).2 W w' := by
  have hlt := ClBody.lt hc
  have h5 := hf.st
  refine gstep_any r (nx r C.st) W (ClBody.cells hc).1 ?_
  unfold Cl.step
  by_cases s1 : C.st = 1
  · rw [if_pos s1]
    rw [show nx r C.st = .func (.func 43) #[.pointer (some ⟨r, 0, none⟩)] #[] by rw [s1]; rfl]
    exact call_fn #[.pointer (some ⟨r, 0, none⟩)] #[] W enters_find (find_any h hn hc hr hw hf.slot)
  by_cases s2 : C.st = 2
  · rw [if_neg s1, if_pos s2]
    rw [show nx r C.st = .func (.func 62) #[.pointer (some ⟨r, 0, none⟩)] #[] by rw [s2]; rfl]
    exact call_fn #[.pointer (some ⟨r, 0, none⟩)] #[] W enters_lay (lay_any h hn hc hr hw hf.slot)
  by_cases s3 : C.st = 3
  · rw [if_neg s1, if_neg s2, if_pos s3]
    rw [show nx r C.st = .func (.func 83) #[.pointer (some ⟨r, 0, none⟩)] #[] by rw [s3]; rfl]
    exact call_fn #[.pointer (some ⟨r, 0, none⟩)] #[] W enters_hang (hang_any h hn hc hr hw hf.slot hf.laid)
  by_cases s4 : C.st = 4
  · rw [if_neg s1, if_neg s2, if_neg s3, if_pos s4]
    rw [show nx r C.st = .func (.func 93) #[.pointer (some ⟨r, 0, none⟩)] #[] by rw [s4]; rfl]
    exact call_fn #[.pointer (some ⟨r, 0, none⟩)] #[] W enters_free (free_any h hn hc hr hw hf.laid)
  by_cases s5 : C.st = 5
  · rw [if_neg s1, if_neg s2, if_neg s3, if_neg s4, if_pos s5]
    rw [show nx r C.st = .func (.func 44) #[.pointer (some ⟨r, 0, none⟩)] #[] by rw [s5]; rfl]
    exact call_fn #[.pointer (some ⟨r, 0, none⟩)] #[] W enters_take (take_any h hn hc hr hw hf.slot hf.tok hf.seg (hf.five s5))
  · rw [if_neg s1, if_neg s2, if_neg s3, if_neg s4, if_neg s5]
    rw [show nx r C.st = .nilFunc by rw [show C.st = 0 by omega]; rfl]
    refine (call_none W).mono ?_
    rintro e w' ⟨he, rfl⟩
    exact ⟨he, M, h.more (by omega), hc, hr, Frm.Turn.refl _ _, fun k hk => .inl hk⟩
theorem step_any (h : Sin w b M A n W) (hn : n ≤ 10000000) (hc : ClAt W r b C) (hr : r ∉ M.foot b) (hw : w.heap.size ≤ r) (hf : C.Fit) :
    Calls Tryz.prog 12 #[.pointer (some ⟨r, 0, none⟩)] W fun e w' => e = .returned (.tuple #[]) ∧ ClAfter w b r M (C.step A).1 (n + 1) (C.step A).2 W w' := by
  have H := Lib.hid (gear_any h hn hc hr hw hf)
  generalize (C.step A).1 = A' at H ⊢
  generalize (C.step A).2 = C' at H ⊢
  clear h hc hr hw hf
  go_enter Tryz.func12, Tryz.ntmps12
  go_wp2_with (go_at_call 29; (with_reducible refine (H.out).mono ?_); rintro e w1 ⟨rfl, ha⟩)
  go_end0
  exact ⟨rfl, ha⟩
theorem idle_nx (r : Nat) {st : Nat} (h : st ≤ 5) : idle (nx r st) = decide (st = 0) := by
  unfold nx
  have : st = 0 ∨ st = 1 ∨ st = 2 ∨ st = 3 ∨ st = 4 ∨ st = 5 := by omega
  rcases this with rfl | rfl | rfl | rfl | rfl | rfl <;> rfl
theorem done_any (hc : ClAt W r b C) (h5 : C.st ≤ 5) :
    Calls Tryz.prog 7 #[.pointer (some ⟨r, 0, none⟩)] W fun e w' => e = .returned (.bool (decide (C.st = 0))) ∧ W = w' := by
  have h1 := gdone_any r _ W (nx_fn r C.st) (ClBody.cells hc).1
  rw [idle_nx r h5] at h1
  have H := Lib.hid h1
  clear h1 hc
  generalize decide (C.st = 0) = z at H ⊢
  go_enter Tryz.func7, Tryz.ntmps7
  go_wp2_with (go_at_call 24; (with_reducible refine (H.out).mono ?_); rintro e w1 ⟨rfl, rfl⟩)
  go_ret
  exact ⟨rfl, rfl⟩
theorem err_any (hc : ClAt W r b C) :
    Calls Tryz.prog 17 #[.pointer (some ⟨r, 0, none⟩)] W fun e w' => e = .returned (.int .i64 C.err) ∧ W = w' := by
  obtain ⟨c0, c1, c2, c3, c4, c5, c6, c7⟩ := ClBody.cells hc
  clear hc
  go_enter Tryz.func17, Tryz.ntmps17
  go_wp2
  go_ret
  exact ⟨rfl, rfl⟩
theorem private_none (hc : ClAt W r b C) (h0 : C.laid = 0) :
    Calls Tryz.prog 18 #[.pointer (some ⟨r, 0, none⟩)] W fun e w' => e = .returned (.slice none 0 0) ∧ W = w' := by
  obtain ⟨c0, c1, c2, c3, c4, c5, c6, c7⟩ := ClBody.cells hc
  have h0' : (C.laid == 0) = true := by simpa using h0
  clear hc h0
  generalize C.laid = x at c6 h0'
  go_enter Tryz.func18, Tryz.ntmps18
  go_wp2
  go_ret
  exact ⟨rfl, rfl⟩
theorem private_some (hc : ClAt W r b C) (h0 : C.laid ≠ 0) :
    Calls Tryz.prog 18 #[.pointer (some ⟨r, 0, none⟩)] W fun e w' => e = .returned (.slice (some ⟨W.heap.size, 0, none⟩) 1 1) ∧ w'.cell? ⟨W.heap.size, 0, none⟩ = some (.int .u64 C.laid) ∧ Frm.Turn [] W w' := by
  obtain ⟨c0, c1, c2, c3, c4, c5, c6, c7⟩ := ClBody.cells hc
  have h0' : (C.laid == 0) = false := by simpa using h0
  clear hc h0
  generalize C.laid = x at c6 h0' ⊢
  go_enter Tryz.func18, Tryz.ntmps18
  go_wp2
  go_ret
  exact ⟨rfl, (Frm.cell_row _ _ 0 _ _ _ (World.alloc_heap_new W _)).trans rfl, (Frm.Turn.refl [] W).alloc _⟩
theorem new_any (tok : Int) (W : World) :
    Calls Tryz.prog 6 #[.pointer (some ⟨b, 0, none⟩), .int .u64 tok] W fun e w' => e = .returned (.pointer (some ⟨W.heap.size, 0, none⟩)) ∧ ClAt w' W.heap.size b (Cl.new tok) ∧ Frm.Turn [] W w' ∧ W.heap.size < w'.heap.size := by
  have hb : ClBody (W.alloc (.cells #[.nilFunc, .pointer (some ⟨b, 0, none⟩), .int .u64 tok, .int .u64 0, .int .i64 0, .bool false, .int .u64 0, .int .i64 0] 74)) W.heap.size b .nilFunc tok 0 0 false 0 0 := World.alloc_heap_new W _
  have ht := (Frm.Turn.refl [] W).alloc (.cells #[.nilFunc, .pointer (some ⟨b, 0, none⟩), .int .u64 tok, .int .u64 0, .int .i64 0, .bool false, .int .u64 0, .int .i64 0] 74)
  have hl := hb.lt
  have HT := Lib.hid ht
  have HL := Lib.hid hl
  unfold Cl.new
  by_cases h0 : tok = 0
  · rw [if_pos h0]
    have h0' : (tok == 0) = true := by simpa using h0
    have HZ := Lib.hid h0
    have HF := Lib.hid (fail_any hb 2)
    clear hb ht hl h0
    go_enter Tryz.func6, Tryz.ntmps6
    go_wp2_with (go_at_call 22; (with_reducible refine (HF.out).mono ?_); rintro e w1 ⟨rfl, hb, hT⟩)
    go_ret
    refine ⟨rfl, ?_, HT.out.trans hT (fun k hk => by simp at hk; omega), by have := hT.size; have := HL.out; omega⟩
    rw [HZ.out] at hb
    exact hb
  · rw [if_neg h0]
    have h0' : (tok == 0) = false := by simpa using h0
    have HF : Hid (Calls Tryz.prog 23 #[.pointer (some ⟨W.heap.size, 0, none⟩), .int .i64 0] (W.alloc (.cells #[.nilFunc, .pointer (some ⟨b, 0, none⟩), .int .u64 tok, .int .u64 0, .int .i64 0, .bool false, .int .u64 0, .int .i64 0] 74)) fun e w' => e = .returned (.tuple #[]) ∧ ClAt w' W.heap.size b ⟨1, tok, 0, 0, false, 0, 0⟩ ∧ Frm.Turn [W.heap.size] (W.alloc (.cells #[.nilFunc, .pointer (some ⟨b, 0, none⟩), .int .u64 tok, .int .u64 0, .int .i64 0, .bool false, .int .u64 0, .int .i64 0] 74)) w') :=
      Lib.hid (turn_any (C := ⟨0, tok, 0, 0, false, 0, 0⟩) hb 0 (by omega))
    clear hb ht hl h0
    go_enter Tryz.func6, Tryz.ntmps6
    go_wp2_with (go_at_call 23; (with_reducible refine (HF.out).mono ?_); rintro e w1 ⟨rfl, hb, hT⟩)
    go_ret
    exact ⟨rfl, hb, HT.out.trans hT (fun k hk => by simp at hk; omega), by have := hT.size; have := HL.out; omega⟩
theorem under_plc : structB (Tryz.prog.underlying 45) = true := by kernel_rfl
theorem info_plc : (Tryz.prog.info? 45).map (·.size) = some 2 := by kernel_rfl
theorem load_plc {W : World} {k : Nat} {x y : Value} (h : W.heap[k]? = some (.cells #[x, y] 45 (0, 0))) : (loadVar 45 ⟨k, 0, none⟩).run Tryz.prog W = .ok (.agg #[x, y]) W := by
  obtain ⟨fs, hfs⟩ := struct_of under_plc
  exact run_loadVar_row W k _ _ #[x, y] (0, 0) (.struct fs) h hfs rfl info_plc
theorem place_no (hc : ClAt W r b C) (h0 : C.own = false) :
    Calls Tryz.prog 8 #[.pointer (some ⟨r, 0, none⟩)] W fun e w' => e = .returned (.tuple #[.agg #[.int .u64 0, .int .i64 0], .bool false]) ∧ Frm.Turn [] W w' := by
  have hA : ∀ o, ClAt (W.alloc o) r b C := fun o => hc.turn ((Frm.Turn.refl [] W).alloc o) (by simp)
  have c5 : ∀ o, (W.alloc o).cell? ⟨r, 5, none⟩ = some (.bool false) := fun o => by rw [← h0]; exact (ClBody.cells (hA o)).2.2.2.2.2.1
  have HT : Hid (∀ o, Frm.Turn [] W (W.alloc o)) := Lib.hid (fun o => (Frm.Turn.refl [] W).alloc o)
  clear hc hA h0
  go_enter Tryz.func8, Tryz.ntmps8
  go_wp2
  have hld := load_plc (World.alloc_heap_new W (.cells #[.int .u64 0, .int .i64 0] 45))
  exact bodyPost_ret (v := .tuple #[.agg #[.int .u64 0, .int .i64 0], .bool false]) (by simp [results, Tryz.results8, asAddr, hld, Act.put]) rfl ⟨rfl, HT.out _⟩
theorem place_yes (hc : ClAt W r b C) (h0 : C.own = true) :
    Calls Tryz.prog 8 #[.pointer (some ⟨r, 0, none⟩)] W fun e w' => e = .returned (.tuple #[.agg #[.int .u64 C.seg, .int .i64 C.slot], .bool true]) ∧ Frm.Turn [] W w' := by
  have hA : ∀ o, ClAt (W.alloc o) r b C := fun o => hc.turn ((Frm.Turn.refl [] W).alloc o) (by simp)
  have c5 : ∀ o, (W.alloc o).cell? ⟨r, 5, none⟩ = some (.bool true) := fun o => by rw [← h0]; exact (ClBody.cells (hA o)).2.2.2.2.2.1
  have c3 : ∀ o, (W.alloc o).cell? ⟨r, 3, none⟩ = some (.int .u64 C.seg) := fun o => (ClBody.cells (hA o)).2.2.2.1
  have c4 : ∀ o, (W.alloc o).cell? ⟨r, 4, none⟩ = some (.int .i64 C.slot) := fun o => (ClBody.cells (hA o)).2.2.2.2.1
  have HT : Hid (∀ o, Frm.Turn [] W (W.alloc o)) := Lib.hid (fun o => (Frm.Turn.refl [] W).alloc o)
  clear hc hA h0
  generalize (C.slot : Int) = y at c4 ⊢
  generalize C.seg = x at c3 ⊢
  go_enter Tryz.func8, Tryz.ntmps8
  go_wp2
  have hld := load_plc (World.alloc_heap_new W (.cells #[.int .u64 x, .int .i64 y] 45))
  exact bodyPost_ret (v := .tuple #[.agg #[.int .u64 x, .int .i64 y], .bool true]) (by simp [results, Tryz.results8, asAddr, hld, Act.put]) rfl ⟨rfl, HT.out _⟩
/-- Place, in one form. -/
theorem place_any (hc : ClAt W r b C) :
    Calls Tryz.prog 8 #[.pointer (some ⟨r, 0, none⟩)] W fun e w' => e = .returned (.tuple #[.agg #[.int .u64 (if C.own then C.seg else 0), .int .i64 (if C.own then (C.slot : Int) else 0)], .bool C.own]) ∧ Frm.Turn [] W w' := by
  cases h0 : C.own with
  | false => exact place_no hc h0
  | true => exact place_yes hc h0
end Clm
end Go.Proofs.YtolcpfidmpoipaaGreat

set_option linter.unusedVariables false
set_option linter.unusedSimpArgs false
namespace Go.Proofs.YtolcpfidmpoipaaGreat
namespace Clm
open Go.RowKit Go.Maps Arn Pac

variable {w W W' : World} {r b n : Nat} {M : Mem} {A : Ar} {C : Cl}
/-- An arena that was made since w. -/
def Arel (w : World) (b : Nat) (A : Ar) (n : Nat) (W : World) : Prop := ∃ M, Sin w b M A n W
/-- .. and one that claims in it. -/
def Crel (w : World) (b r : Nat) (A : Ar) (n : Nat) (C : Cl) (W : World) : Prop := ∃ M, Sin w b M A n W ∧ ClAt W r b C ∧ r ∉ M.foot b ∧ w.heap.size ≤ r
theorem Crel.arel (h : Crel w b r A n C W) : Arel w b A n W := ⟨_, h.choose_spec.1⟩
theorem Crel.at_ (h : Crel w b r A n C W) : ClAt W r b C := h.choose_spec.2.1
theorem Arel.turn (h : Arel w b A n W) : Frm.Turn [] w W := h.choose_spec.turn
theorem Arel.step (h : Arel w b A n W) (ht : Frm.Turn [] W W') : Arel w b A n W' := ⟨_, h.choose_spec.step ht⟩
theorem Arel.more {m : Nat} (h : Arel w b A n W) (hm : n ≤ m) : Arel w b A m W := ⟨_, h.choose_spec.more hm⟩
theorem Crel.step (h : Crel w b r A n C W) (ht : Frm.Turn [] W W') : Crel w b r A n C W' := by
  obtain ⟨M, h1, h2, h3, h4⟩ := h
  exact ⟨M, h1.step ht, h2.turn ht (by simp), h3, h4⟩
theorem crel_step (h : Crel w b r A n C W) (hn : n ≤ 10000000) (hf : C.Fit) :
    Calls Tryz.prog 12 #[.pointer (some ⟨r, 0, none⟩)] W fun e w' => e = .returned (.tuple #[]) ∧ Crel w b r (C.step A).1 (n + 1) (C.step A).2 w' := by
  obtain ⟨M, h1, h2, h3, h4⟩ := h
  refine (step_any h1 hn h2 h3 h4 hf).mono ?_
  rintro e w' ⟨he, M', k1, k2, k3, k4, k5⟩
  exact ⟨he, M', k1, k2, k3, h4⟩
theorem crel_new (h : Arel w b A n W) (tok : Int) :
    Calls Tryz.prog 6 #[.pointer (some ⟨b, 0, none⟩), .int .u64 tok] W fun e w' => ∃ r, e = .returned (.pointer (some ⟨r, 0, none⟩)) ∧ Crel w b r A n (Cl.new tok) w' ∧ Frm.Turn [] W w' := by
  obtain ⟨M, h1⟩ := h
  refine (new_any tok W).mono ?_
  rintro e w' ⟨he, k1, k2, k3⟩
  have := h1.turn.size
  exact ⟨_, he, ⟨M, h1.step k2, k1, fun hk => by have := h1.lt hk; omega, by omega⟩, k2⟩
/-- So many steps. -/
def runs : Nat → Ar → Cl → Ar × Cl
  | 0, A, C => (A, C)
  | n + 1, A, C => (runs n A C).2.step (runs n A C).1
def fA : Nat → Ar
  | 0 => Ar.new 99
  | k + 1 => (runs 20 (fA k) (Cl.new 7)).1
def fitB (C : Cl) : Bool := decide (C.st ≤ 5) && decide (C.slot < 255) && decide (0 ≤ C.tok ∧ C.tok < 18446744073709551616) && decide (0 ≤ C.seg ∧ C.seg < 18446744073709551616) && decide (0 ≤ C.laid ∧ C.laid < 18446744073709551616) && (decide (C.st ≠ 5) || decide (C.seg ≠ 0))
theorem fit_of {C : Cl} (h : fitB C = true) : C.Fit := by
  simp only [fitB, Bool.and_eq_true, decide_eq_true_eq, Bool.or_eq_true] at h
  obtain ⟨⟨⟨⟨⟨h1, h2⟩, h3⟩, h4⟩, h5⟩, h6⟩ := h
  exact ⟨h1, h2, h3, h4, h5, fun e => h6.resolve_left (fun h => h e)⟩
theorem first_fit : ∀ k : Fin 3, ∀ j : Fin 20, fitB (runs j.val (fA k.val) (Cl.new 7)).2 = true := by decide +kernel
theorem first_end : ∀ k : Fin 3, (runs 20 (fA k.val) (Cl.new 7)).2.own = true ∧ (runs 20 (fA k.val) (Cl.new 7)).2.slot = k.val ∧ (runs 20 (fA k.val) (Cl.new 7)).2.st = 0 ∧ (runs 20 (fA k.val) (Cl.new 7)).2.err = 0 ∧ (runs 20 (fA k.val) (Cl.new 7)).2.laid = 0 := by decide +kernel
theorem first_used : Arn.used (fA 3).L = 21 ∧ (fA 3).faults = 0 := by decide +kernel
set_option maxRecDepth 100000 in
set_option maxHeartbeats 4000000 in
theorem first_any (w : World) : Calls Tryz.prog 4 #[] w fun e w' => e = .returned (.bool true) ∧ Frm.Turn [] w w' := by
  have HN : Hid (Calls Tryz.prog 5 #[.int .i64 99] w fun e w' => ∃ b, e = .returned (.tuple #[.pointer (some ⟨b, 0, none⟩), .int .i64 0]) ∧ Arel w b (fA 0) 0 w') :=
    Lib.hid ((sin_new 99 w (by omega)).mono fun e w' ⟨b, M, he, hs⟩ => ⟨b, he, M, hs⟩)
  go_enter Tryz.func4, Tryz.ntmps4
  go_wp2_with (go_at_call 5; (with_reducible refine (HN.out).mono ?_); rintro e w1 ⟨b, rfl, h⟩; have H0 := Lib.hid h; clear h)
  clear HN
  go_loopw [11] (fun i wr => ∃ k : Nat, k ≤ 3 ∧ i = .int .i64 k ∧ Arel w b (fA k) (20 * k) wr) (fun i _ => 3 - (intOf i).toNat)
  case atStart => exact ⟨0, Nat.zero_le _, rfl, H0.out⟩
  case round =>
    obtain ⟨k, hk, rfl, hrel⟩ := hrel
    clear H0
    by_cases hlt : k < 3
    · have HNW := Lib.hid (crel_new hrel 7)
      have hk1 : (k : Int) < 3 := by omega
      clear hrel
      go_wp2_with (go_at_call 6; (with_reducible refine (HNW.out).mono ?_); rintro e w2 ⟨r, rfl, h, hT⟩; have HC0 := Lib.hid h; clear h hT)
      go_loopw [16] (fun i wz => ∃ j : Nat, j ≤ 20 ∧ i = .int .i64 j ∧ Crel w b r (runs j (fA k) (Cl.new 7)).1 (20 * k + j) (runs j (fA k) (Cl.new 7)).2 wz) (fun i _ => 20 - (intOf i).toNat)
      case atStart => exact ⟨0, Nat.zero_le _, rfl, HC0.out⟩
      case round =>
        obtain ⟨j, hj, rfl, hcr⟩ := hrel
        clear HC0 HNW
        by_cases hlt2 : j < 20
        · have HST := Lib.hid (crel_step hcr (by omega) (fit_of (first_fit ⟨k, hlt⟩ ⟨j, hlt2⟩)))
          have hj1 : (j : Int) < 20 := by omega
          clear hcr
          go_wp2_with (go_at_call 12; (with_reducible refine (HST.out).mono ?_); rintro e w4 ⟨rfl, hg⟩; have HG4 := Lib.hid hg; clear hg)
          refine ⟨⟨j + 1, by omega, by simp, HG4.out⟩, ?_⟩
          simp [intOf]; omega
        · obtain rfl : j = 20 := by omega
          obtain ⟨e1, e2, e3, e4, e5⟩ := first_end ⟨k, hlt⟩
          dsimp only at e1 e2 e3 e4 e5
          have HP : Hid (Calls Tryz.prog 8 #[.pointer (some ⟨r, 0, none⟩)] wr fun e w' => ∃ x : Int, e = .returned (.tuple #[.agg #[.int .u64 x, .int .i64 k], .bool true]) ∧ Frm.Turn [] wr w') := Lib.hid ((place_yes hcr.at_ e1).mono fun e w' ⟨he, ht⟩ => ⟨_, by rw [e2] at he; exact he, ht⟩)
          have HQ := Lib.hid (fun W' (ht : Frm.Turn [] wr W') => And.intro (done_any (hcr.step ht).at_ (by omega)) (And.intro (err_any (hcr.step ht).at_) (private_none (hcr.step ht).at_ e5)))
          rw [e3, e4] at HQ
          have HA1 : Hid (Arel w b (fA (k + 1)) (20 * k + 20) wr) := Lib.hid hcr.arel
          clear hcr e1 e2 e3 e4 e5
          go_wp2_with (first
            | (go_at_call 8; (with_reducible refine (HP.out).mono ?_); rintro e w4 ⟨x, rfl, ht⟩; have HT4 := Lib.hid (ht.alloc (.cells #[.int .u64 x, .int .i64 k] 45)); clear ht)
            | (go_at_call 7; (with_reducible refine ((HQ.out _ HT4.out).1).mono ?_); rintro e w5 ⟨rfl, rfl⟩)
            | (go_at_call 17; (with_reducible refine ((HQ.out _ HT4.out).2.1).mono ?_); rintro e w5 ⟨rfl, rfl⟩)
            | (go_at_call 18; (with_reducible refine ((HQ.out _ HT4.out).2.2).mono ?_); rintro e w5 ⟨rfl, rfl⟩))
          refine ⟨⟨k + 1, by omega, by simp, (HA1.out.step HT4.out).more (by omega)⟩, ?_⟩
          simp [intOf]; omega
    · obtain rfl : k = 3 := by omega
      obtain ⟨f1, f2⟩ := first_used
      obtain ⟨M, hs⟩ := hrel
      have HU := Lib.hid (used_any hs.at_)
      have HF := Lib.hid (faults_any hs.at_)
      rw [f1] at HU
      rw [f2] at HF
      have HNW := Lib.hid (new_any (b := b) 0 wr)
      have HT := Lib.hid hs.turn
      clear hs f1 f2
      go_wp2_with (first
        | (go_at_call 19; (with_reducible refine (HU.out).mono ?_); rintro e w4 ⟨rfl, rfl⟩)
        | (go_at_call 20; (with_reducible refine (HF.out).mono ?_); rintro e w4 ⟨rfl, rfl⟩)
        | (go_at_call 6; (with_reducible refine (HNW.out).mono ?_); rintro e w5 ⟨rfl, hc, ht, _⟩; have HE := Lib.hid (err_any hc); have HT5 := Lib.hid ht; clear hc ht)
        | (go_at_call 17; (with_reducible refine (HE.out).mono ?_); rintro e w6 ⟨rfl, rfl⟩))
      go_ret
      exact ⟨rfl, HT.out.trans HT5.out (by simp)⟩
end Clm
end Go.Proofs.YtolcpfidmpoipaaGreat

set_option linter.unusedVariables false
set_option linter.unusedSimpArgs false
namespace Go.Proofs.YtolcpfidmpoipaaGreat
namespace Clm
open Go.RowKit Go.Maps Arn Pac

variable {w W W' : World} {r b n : Nat} {K : List Nat} {A : Ar} {C : Cl}
/-- An arena that was made since w, beside blocks K that it leaves alone. -/
def Kin (w : World) (b : Nat) (K : List Nat) (A : Ar) (n : Nat) (W : World) : Prop := ∃ M, Sin w b M A n W ∧ ∀ k, k ∈ K → k ∉ M.foot b ∧ k < W.heap.size
/-- Of K nothing has turned, but r; what has turned was made since w. -/
def But (w : World) (K : List Nat) (r : Option Nat) (W W' : World) : Prop := ∃ F, Frm.Turn F W W' ∧ (∀ k, k ∈ K → some k ≠ r → k ∉ F) ∧ ∀ k, k ∈ F → w.heap.size ≤ k
theorem Kin.turn (h : Kin w b K A n W) : Frm.Turn [] w W := h.choose_spec.1.turn
theorem Kin.lt (h : Kin w b K A n W) {k : Nat} (hk : k ∈ K) : k < W.heap.size := (h.choose_spec.2 k hk).2
theorem Kin.arel (h : Kin w b K A n W) : Arel w b A n W := ⟨_, h.choose_spec.1⟩
theorem Kin.born (h : Kin w b K A n W) : A.births ≤ n := h.choose_spec.1.born
theorem Kin.ok (h : Kin w b K A n W) : A.Ok := h.choose_spec.1.at_.ok
theorem Kin.more {m : Nat} (h : Kin w b K A n W) (hm : n ≤ m) : Kin w b K A m W := by
  obtain ⟨M, h1, h2⟩ := h
  exact ⟨M, h1.more hm, h2⟩
theorem Kin.sub {K' : List Nat} (h : Kin w b K A n W) (hk : ∀ k, k ∈ K' → k ∈ K) : Kin w b K' A n W := by
  obtain ⟨M, h1, h2⟩ := h
  exact ⟨M, h1, fun k hk' => h2 k (hk k hk')⟩
/-- Blocks of K turn, or none. -/
theorem Kin.poke {G : List Nat} (h : Kin w b K A n W) (ht : Frm.Turn G W W') (hG : ∀ k, k ∈ G → k ∈ K ∧ w.heap.size ≤ k) : Kin w b K A n W' := by
  obtain ⟨M, h1, h2⟩ := h
  have := ht.size
  exact ⟨M, h1.apart ht (fun k hk hk' => (h2 k (hG k hk').1).1 hk) (fun k hk => (hG k hk).2), fun k hk => ⟨(h2 k hk).1, by have := (h2 k hk).2; omega⟩⟩
theorem Kin.step (h : Kin w b K A n W) (ht : Frm.Turn [] W W') : Kin w b K A n W' := h.poke ht (by simp)
theorem Kin.add (h : Kin w b K A n W) (ht : Frm.Turn [] W W') {k : Nat} (h1 : W.heap.size ≤ k) (h2 : k < W'.heap.size) : Kin w b (k :: K) A n W' := by
  obtain ⟨M, h3, h4⟩ := h
  have := ht.size
  refine ⟨M, h3.step ht, fun j hj => ?_⟩
  rcases List.mem_cons.1 hj with rfl | hj
  · exact ⟨fun hk => by have := h3.lt hk; omega, h2⟩
  · exact ⟨(h4 j hj).1, by have := (h4 j hj).2; omega⟩
theorem But.of (h : Frm.Turn [] W W') : But w K none W W' := ⟨[], h, by simp, by simp⟩
theorem But.pre {W0 : World} {o : Option Nat} (h : But w K o W W') (ht : Frm.Turn [] W0 W) : But w K o W0 W' := by
  obtain ⟨F, hT, h1, h2⟩ := h
  exact ⟨F, (ht.mono (by simp)).trans hT (fun k hk => .inl hk), h1, h2⟩
theorem But.heap {k : Nat} {o : Obj} (h : But w K (some r) W W') (hk : k ∈ K) (hr : k ≠ r) (ho : W.heap[k]? = some o) : W'.heap[k]? = some o := by
  obtain ⟨F, hT, h1, _⟩ := h
  exact hT.keep ho (h1 k hk (by simpa using hr))
theorem But.heap0 {k : Nat} {o : Obj} (h : But w K none W W') (hk : k ∈ K) (ho : W.heap[k]? = some o) : W'.heap[k]? = some o := by
  obtain ⟨F, hT, h1, _⟩ := h
  exact hT.keep ho (h1 k hk (by simp))
theorem But.at_ {s : Nat} {D : Cl} (h : But w K (some r) W W') (hk : s ∈ K) (hr : s ≠ r) (hc : ClAt W s b D) : ClAt W' s b D := h.heap hk hr hc
theorem But.at0 {s : Nat} {D : Cl} (h : But w K none W W') (hk : s ∈ K) (hc : ClAt W s b D) : ClAt W' s b D := h.heap0 hk hc
theorem But.low (h : But w K (some r) W W') : W.heap.size ≤ W'.heap.size := h.choose_spec.1.size
theorem But.row {e : TypeId} {size m : Nat} {v : Value} {xs : List Value} {o : Option Nat} (h : But w K o W W') (hv : ∀ k, v.ownBlock = some k → k ∈ K ∧ some k ≠ o) (hr : W.ownsRow w.heap.size e size v m xs) : W'.ownsRow w.heap.size e size v m xs := by
  obtain ⟨F, hT, h1, _⟩ := h
  exact Frm.owns_turn hr hT (fun k hk => h1 k (hv k hk).1 (hv k hk).2)
/-- What lay there ahead of w stays. -/
theorem But.old {o : Option Nat} {a : Addr} {v : Value} (h : But w K o W W') (ha : a.block < w.heap.size) (hc : W.cell? a = some v) : W'.cell? a = some v := by
  obtain ⟨F, hT, _, h2⟩ := h
  exact hT.cell hc (fun hk => by have := h2 _ hk; omega)
theorem kin_step (h : Kin w b K A n W) (hn : n ≤ 10000000) (hr : r ∈ K) (hw : w.heap.size ≤ r) (hc : ClAt W r b C) (hf : C.Fit) :
    Calls Tryz.prog 12 #[.pointer (some ⟨r, 0, none⟩)] W fun e w' => e = .returned (.tuple #[]) ∧ Kin w b K (C.step A).1 (n + 1) w' ∧ ClAt w' r b (C.step A).2 ∧ But w K (some r) W w' := by
  obtain ⟨M, h1, h2⟩ := h
  refine (step_any h1 hn hc (h2 r hr).1 hw hf).mono ?_
  rintro e w' ⟨he, M', k1, k2, k3, k4, k5⟩
  have hsz := k4.size
  refine ⟨he, ⟨M', k1, fun k hk => ⟨fun hk' => ?_, by have := (h2 k hk).2; omega⟩⟩, k2, ⟨_, k4, fun k hk hne hk' => ?_, fun k hk => ?_⟩⟩
  · rcases k5 k hk' with e1 | e1
    · exact (h2 k hk).1 e1
    · have := (h2 k hk).2; omega
  · rcases List.mem_cons.1 hk' with rfl | hk'
    · exact hne rfl
    · exact (h2 k hk).1 hk'
  · rcases List.mem_cons.1 hk with rfl | hk
    · exact hw
    · exact h1.new k hk
theorem kin_write (h : Kin w b K A n W) (hn : n ≤ 10000000) (blk i v : Int) (hb : W64 blk) (hi : (Lit.int .i64 i).wf = true) (hv : W64 v) :
    Calls Tryz.prog 9 #[.pointer (some ⟨b, 0, none⟩), .agg #[.int .u64 blk, .int .i64 i], .int .u64 v] W fun e w' => e = .returned (.int .i64 (A.write blk i v).2) ∧ Kin w b K (A.write blk i v).1 (n + 1) w' ∧ But w K none W w' := by
  obtain ⟨M, h1, h2⟩ := h
  refine (sin_write h1 (by omega) blk i v hb hi hv).mono ?_
  rintro e w' ⟨he, M', k1, k4, k5⟩
  have hsz := k4.size
  refine ⟨he, ⟨M', k1, fun k hk => ⟨fun hk' => ?_, by have := (h2 k hk).2; omega⟩⟩, ⟨_, k4, fun k hk hne hk' => (h2 k hk).1 hk', fun k hk => h1.new k hk⟩⟩
  rcases k5 k hk' with e1 | e1
  · exact (h2 k hk).1 e1
  · have := (h2 k hk).2; omega
theorem kin_new (h : Kin w b K A n W) (tok : Int) :
    Calls Tryz.prog 6 #[.pointer (some ⟨b, 0, none⟩), .int .u64 tok] W fun e w' => ∃ r, e = .returned (.pointer (some ⟨r, 0, none⟩)) ∧ r = W.heap.size ∧ Kin w b (r :: K) A n w' ∧ ClAt w' r b (Cl.new tok) ∧ Frm.Turn [] W w' := by
  refine (new_any tok W).mono ?_
  rintro e w' ⟨he, k1, k2, k3⟩
  exact ⟨_, he, rfl, h.add k2 (Nat.le_refl _) k3, k1, k2⟩

/-! ### the document's words -/
theorem two_mul_pow (k : Nat) : 2 ^ (k + 1) = 2 * 2 ^ k := by rw [Nat.pow_succ]; omega
set_option maxRecDepth 100000 in
theorem Pow_any (g : Nat) (W : World) (h : g ≤ 8) : Calls Tryz.prog 46 #[.int .i64 g] W fun e w' => e = .returned (.int .i64 ((2 ^ g : Nat) : Int)) ∧ W = w' := by
  go_enter Tryz.func46, Tryz.ntmps46
  go_wp2_with fail
  go_loopw [3, 4] (fun p i wr => ∃ (k : Nat) (y : Int), k ≤ g ∧ i = .int .i64 k ∧ p = .int .i64 y ∧ y = ((2 ^ k : Nat) : Int) ∧ W = wr) (fun _ i _ => g - (intOf i).toNat)
  case atStart => exact ⟨0, 1, Nat.zero_le _, rfl, rfl, rfl, rfl⟩
  case round =>
    obtain ⟨k, y, hk, rfl, rfl, hy, rfl⟩ := hrel
    have hp : 2 ^ k ≤ 2 ^ 8 := Nat.pow_le_pow_right (by omega) (by omega)
    have hy0 : 0 ≤ y := by rw [hy]; exact Int.natCast_nonneg _
    have hy1 : y ≤ 256 := by omega
    have HY := Lib.hid hy
    clear hy hp
    by_cases hlt : k < g
    · have hk1 : (k : Int) < (g : Int) := by omega
      go_wp2_with fail
      refine ⟨⟨k + 1, 2 * y, by omega, by simp, rfl, by rw [HY.out, two_mul_pow]; omega, by simp⟩, ?_⟩
      simp [intOf]; omega
    · obtain rfl : k = g := by omega
      go_wp2_with fail
      go_ret
      rw [HY.out]
      exact ⟨rfl, rfl⟩
theorem sg_least {s k : Nat} (h : s < 255) (hk : k ≤ sgN s) : 2 ^ k ≤ s + 1 := by
  have := sg_facts h
  have h2 : 2 ^ k ≤ 2 ^ sgN s := Nat.pow_le_pow_right (by omega) hk
  omega
set_option maxRecDepth 100000 in
set_option maxHeartbeats 1000000 in
theorem RSegment_any (s : Nat) (W : World) (h : s < 255) : Calls Tryz.prog 26 #[.int .i64 s] W fun e w' => e = .returned (.tuple #[.int .i64 (sgN s), .int .i64 (ofN s)]) ∧ W = w' := by
  obtain ⟨q1, q2, q3, q4, q5⟩ := sg_facts h
  have HP := Lib.hid (fun (g : Nat) (hg : g ≤ 8) W => Pow_any g W hg)
  go_enter Tryz.func26, Tryz.ntmps26
  go_wp2_with fail
  go_loopw [0, 4] (fun x i wr => ∃ (k : Nat) (y : Int), k ≤ sgN s ∧ i = .int .i64 k ∧ x = .int .i64 y ∧ y = (s : Int) + 1 - ((2 ^ k : Nat) : Int) ∧ W = wr) (fun _ i _ => sgN s - (intOf i).toNat)
  case atStart => exact ⟨0, s, Nat.zero_le _, rfl, rfl, by simp, rfl⟩
  case round =>
    obtain ⟨k, y, hk, rfl, rfl, hy, rfl⟩ := hrel
    have hle := sg_least h hk
    have hpk := Nat.pow_le_pow_right (show 0 < 2 by omega) hk
    have HPK := Lib.hid (HP.out k (by omega) W)
    have HS := Lib.hid (two_mul_pow k)
    obtain ⟨p, hp⟩ : ∃ p : Int, p = ((2 ^ k : Nat) : Int) := ⟨_, rfl⟩
    rw [← hp] at HPK hy
    have hp0 : 1 ≤ p := by have : 1 ≤ 2 ^ k := Nat.one_le_two_pow; omega
    have hp1 : p ≤ 255 := by omega
    have hy0 : 0 ≤ y := by omega
    have hy1 : y ≤ 255 := by omega
    by_cases hlt : k < sgN s
    · have hge : p ≤ y := by
        have h2 : 2 ^ (k + 1) ≤ s + 1 := sg_least h hlt
        rw [two_mul_pow] at h2
        omega
      have HY := Lib.hid (And.intro hy hp)
      have hk8 : (k : Int) ≤ 8 := by omega
      clear hy hp hle hpk q1 q2 q3 q4 q5
      go_wp2_with (go_at_call 46; (with_reducible refine (HPK.out).mono ?_); rintro e w1 ⟨rfl, rfl⟩)
      refine ⟨⟨k + 1, y - p, by omega, by simp, rfl, by have := HY.out.1; have := HY.out.2; have := HS.out; omega, by simp⟩, ?_⟩
      simp [intOf]; omega
    · obtain rfl : k = sgN s := by omega
      have hlt2 : y < p := by unfold ofN at q3; omega
      have HY : Hid (y = (ofN s : Int)) := Lib.hid (by unfold ofN; omega)
      clear hy hp hle hpk q1 q2 q3 q4 q5
      go_wp2_with (go_at_call 46; (with_reducible refine (HPK.out).mono ?_); rintro e w1 ⟨rfl, rfl⟩)
      go_ret2
      rw [HY.out]
      exact ⟨rfl, rfl⟩
set_option maxRecDepth 100000 in
theorem RWord_any (seg : Int) (s : Nat) (W : World) (h : s < 255) : Calls Tryz.prog 10 #[.agg #[.int .u64 seg, .int .i64 s], .int .i64 0] W fun e w' => e = .returned (.agg #[.int .u64 seg, .int .i64 (5 * (ofN s : Int))]) ∧ Frm.Turn [] W w' := by
  have H1 := Lib.hid (fun W => RSegment_any s W h)
  obtain ⟨q1, q2, q3, q4, q5⟩ := sg_facts h
  have b0 : (0 : Int) ≤ (ofN s : Int) := by omega
  have b1 : (ofN s : Int) ≤ 127 := by omega
  have HT : Hid (∀ o o', Frm.Turn [] W ((W.alloc o).alloc o')) := Lib.hid (fun o o' => ((Frm.Turn.refl [] W).alloc o).alloc o')
  generalize (ofN s : Int) = x at H1 b0 b1 ⊢
  generalize (sgN s : Int) = g at H1
  generalize (s : Int) = y at H1 ⊢
  clear q1 q2 q3 q4 q5 h
  go_enter Tryz.func10, Tryz.ntmps10
  go_wp2_with (first
    | (go_at_call 26; (with_reducible refine (H1.out _).mono ?_); rintro e w1 ⟨rfl, rfl⟩))
  have hn := World.alloc_heap_new (W.alloc (.cells #[.int .u64 seg, .int .i64 y] 45)) (.cells #[.int .u64 seg, .int .i64 (5 * x)] 50)
  rw [World.size_alloc] at hn
  have hld := load_adr hn
  exact bodyPost_ret (v := .agg #[.int .u64 seg, .int .i64 (5 * x)]) (by simp [results, Tryz.results10, asAddr, hld, Act.put]) rfl ⟨rfl, HT.out _ _⟩
end Clm
end Go.Proofs.YtolcpfidmpoipaaGreat
