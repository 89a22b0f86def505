/- The document's Lay. -/
import Derived.Test.YtfbnidjcimcfoaaArenaClone
import Derived.RangeFuncRecord
import Derived.Test.YtfbnidjcimcfoaaArenaRef
import Derived.Laws.Tables
import Derived.Laws.AppendOwnNone
import Derived.Deep.RegionWith
import Derived.Deep.MidRow
import Derived.Deep.RegionHeld3
set_option linter.unusedVariables false
set_option linter.unusedSimpArgs false
namespace Go.Proofs.Ytfbnidjcimcfoaa
namespace Arn
open Go.RowKit Hp Go.Maps

theorem refHandle_any (x y : Int) (w : World) (h1 : 1 ≤ x) (h2 : x ≤ 268435455) (h3 : 1 ≤ y) (h4 : y ≤ 65535) :
    Calls Try.prog 47 #[.int .u64 x, .int .u64 y] w fun e w' => e = .returned (.int .u64 (x * 65536 + y)) ∧ w = w' := by
  go_enter Try.func47, Try.ntmps47
  go_wp2
  go_ret
  exact ⟨rfl, rfl⟩
theorem info_refA : (Try.prog.info? 32).map (·.size) = some 20 := by kernel_rfl
theorem under_refA : structB (Try.prog.underlying 32) = true := by kernel_rfl
theorem setRow_turn {F : List Nat} {w0 w : World} (h : Frm.Turn F w0 w) {g : Nat} (hg : g ∈ F ∨ w0.heap.size ≤ g) (cs : Array Value) : Frm.Turn F w0 (w.setRow g cs) :=
  ⟨h.os, h.tape, h.output, by have := h.size; simp; omega, fun k hk hn => by
    have hne : g ≠ k := fun e => by subst e; rcases hg with h1 | h1; exact hn h1; omega
    rw [← h.block k hk hn]
    simp [World.setRow, Array.getElem?_modify, hne]⟩
theorem refCells_one (A : Ar) (f0 f1 f2 f3 f4 f5 f6 f7 f8 : Int) (a : Option Addr) (n c : Nat) : (refCells A f0 f1 f2 f3 f4 f5 f6 f7 f8 (.slice a n c)).all (·.oneCell') = true := by
  simp [refCells, Value.oneCell']
/-- The two boxes of the document's Lay: its own copy, and what is told. -/
structure RefIn (w : World) (bx bz : Nat) (CS : Array Value) (W : World) : Prop where
  own : W.heap[bx]? = some (.cells CS 32 (0, 0))
  res : ∃ Z : Array Value, Z.size = 20 ∧ W.heap[bz]? = some (.cells Z 32 (0, 0))
  ne : bx ≠ bz
  nx : w.heap.size ≤ bx
  nz : w.heap.size ≤ bz
  turn : Frm.Turn [] w W
theorem RefIn.start (w : World) (CS Z : Array Value) (hz : Z.size = 20) : RefIn w w.heap.size (w.heap.size + 1) CS ((w.alloc (.cells CS 32)).alloc (.cells Z 32)) := by
  refine ⟨(((Frm.Turn.refl [] _).alloc (.cells Z 32)).keep (World.alloc_heap_new w _) (by simp)), ⟨Z, hz, ?_⟩, by omega, Nat.le_refl _, by omega, ((Frm.Turn.refl [] w).alloc _).alloc _⟩
  have := World.alloc_heap_new (w.alloc (.cells CS 32)) (.cells Z 32)
  rwa [World.size_alloc] at this
theorem RefIn.step {w W W' : World} {bx bz : Nat} {CS : Array Value} (h : RefIn w bx bz CS W) {F : List Nat} (hT : Frm.Turn F W W') (hF : ∀ k, k ∈ F → w.heap.size ≤ k) (hx : bx ∉ F) (hz : bz ∉ F) : RefIn w bx bz CS W' := by
  obtain ⟨Z, z1, z2⟩ := h.res
  exact ⟨hT.keep h.own hx, ⟨Z, z1, hT.keep z2 hz⟩, h.ne, h.nx, h.nz, h.turn.trans hT (fun k hk => .inr (hF k hk))⟩
theorem RefIn.set {w W : World} {bx bz : Nat} {CS : Array Value} (h : RefIn w bx bz CS W) (i : Nat) (v : Value) : RefIn w bx bz (CS.setIfInBounds i v) (W.setCell ⟨bx, i, none⟩ v) := by
  obtain ⟨Z, z1, z2⟩ := h.res
  have hT : Frm.Turn [bx] W (W.setCell ⟨bx, i, none⟩ v) := (Frm.Turn.refl _ W).setCell (p := ⟨bx, i, none⟩) (.inl (by simp)) v
  exact ⟨Frm.heap_set W bx i CS _ _ v h.own, ⟨Z, z1, hT.keep z2 (by simp; exact fun e => h.ne e.symm)⟩, h.ne, h.nx, h.nz, h.turn.trans hT (fun k hk => by simp at hk; subst hk; exact .inr h.nx)⟩
theorem RefIn.cell {w W : World} {bx bz : Nat} {CS : Array Value} (h : RefIn w bx bz CS W) (i : Nat) : W.cell? ⟨bx, i, none⟩ = CS[i]? := Frm.cell_row W bx i CS _ _ h.own
theorem RefIn.thaw {w W : World} {bx bz : Nat} {CS : Array Value} (h : RefIn w bx bz CS W) (i : Nat) : W.frozen? ⟨bx, i, none⟩ = false := Frm.frozen_row W bx i CS _ h.own
theorem RefIn.told {w W : World} {bx bz : Nat} {CS : Array Value} (h : RefIn w bx bz CS W) (hsz : CS.size = 20) {fs : Array Field} (hfs : Try.prog.underlying 32 = some (.struct fs)) :
    (loadVar 32 ⟨bz, 0, none⟩).run Try.prog (W.setRow bz CS) = .ok (.agg CS) (W.setRow bz CS) := by
  obtain ⟨Z, z1, z2⟩ := h.res
  exact run_loadVar_row (W.setRow bz CS) bz _ _ CS (0, 0) (.struct fs) (setRow_heap W bz Z CS _ _ z2) hfs rfl (by rw [hsz]; exact info_refA)
theorem RefIn.end_ {w W : World} {bx bz : Nat} {CS : Array Value} (h : RefIn w bx bz CS W) : Frm.Turn [] w (W.setRow bz CS) := setRow_turn h.turn (.inr h.nz) CS
set_option maxRecDepth 100000 in
set_option maxHeartbeats 4000000 in
/-- The refusals. -/
theorem refLay_arg (CS : Array Value) (hsz : CS.size = 20) (h1 : CS.all (·.oneCell') = true) (w : World) (a : Option Addr) (n c : Nat) (hn : n < 1 ∨ 2048 < n) (hm : n ≤ 9223372036854775807) :
    Calls Try.prog 29 #[.agg CS, .slice a n c] w fun e w' => e = .returned (.tuple #[.agg CS, .int .u64 0, .int .i64 2]) ∧ Frm.Turn [] w w' := by
  obtain ⟨fs, hfs⟩ := struct_of under_refA
  have HSZ := Lib.hid hsz
  have HONE := Lib.hid h1
  have HFS := Lib.hid hfs
  clear h1 hfs
  go_enter Try.func29, Try.ntmps29
  go_upto_region 1 with fail
  have hin := RefIn.start w CS #[.int .i64 0, .int .i64 0, .int .i64 0, .int .i64 0, .int .u64 0, .int .u64 0, .int .u64 0, .int .u64 0, .int .u64 0, .int .u64 0, .int .u64 0, .int .u64 0, .int .u64 0, .slice none 0 0, .int .i64 0, .int .i64 0, .int .i64 0, .int .i64 0, .int .i64 0, .int .i64 0] rfl
  obtain ⟨bx, Hx⟩ : ∃ bx, Hid (bx = w.heap.size) := ⟨_, Lib.hid rfl⟩
  obtain ⟨bz, Hz⟩ : ∃ bz, Hid (bz = w.heap.size + 1) := ⟨_, Lib.hid rfl⟩
  rw [← Hz.out, ← Hx.out] at hin ⊢
  generalize (w.alloc (.cells CS 32)).alloc _ = W1 at hin ⊢
  have HIN := Lib.hid hin
  obtain ⟨Z, z1, z2⟩ := hin.res
  have HZ1 := Lib.hid z1
  have HZ2 := Lib.hid z2
  have hld := hin.told hsz HFS.out
  clear hin z1 z2 hsz
  by_cases h0 : n = 0
  · have h0' : ((n : Int) == 0) = true := by simp [h0]
    have H0 := Lib.hid h0
    clear h0 hn
    go_wp2_with (first
      | (refine wpList_load_row rfl 32 (.tmp 2) rfl bx rfl 32 CS (0, 0) (.struct fs) HIN.out.own HFS.out rfl (by rw [HSZ.out]; exact info_refA) ?_)
      | (refine wpList_store_row rfl 32 (.tmp 4) (.tmp 19) rfl bz CS rfl rfl 32 Z HZ2.out (by rw [HSZ.out]; exact info_refA) (by rw [HZ1.out, HSZ.out]) HONE.out ?_))
    exact bodyPost_ret (v := .tuple #[.agg CS, .int .u64 0, .int .i64 2]) (by simp [results, Try.results29, asAddr, hld]) rfl ⟨rfl, HIN.out.end_⟩
  · have h0' : ((n : Int) == 0) = false := by simpa using h0
    have h2 : 2048 < n := by omega
    clear h0 hn
    go_wp2_with (first
      | (refine wpList_load_row rfl 32 (.tmp 2) rfl bx rfl 32 CS (0, 0) (.struct fs) HIN.out.own HFS.out rfl (by rw [HSZ.out]; exact info_refA) ?_)
      | (refine wpList_store_row rfl 32 (.tmp 4) (.tmp 19) rfl bz CS rfl rfl 32 Z HZ2.out (by rw [HSZ.out]; exact info_refA) (by rw [HZ1.out, HSZ.out]) HONE.out ?_))
    exact bodyPost_ret (v := .tuple #[.agg CS, .int .u64 0, .int .i64 2]) (by simp [results, Try.results29, asAddr, hld]) rfl ⟨rfl, HIN.out.end_⟩
/-- A whole struct is loaded, in a region that draws its order. -/
theorem step_load_row {P : Program} {ops : Array Oper} {o : Oper} {a : Act} {w : World} {K : Act → World → Prop} {Q : Exit → Act → World → Prop} {E : Prop}
    (hg : o.guard = none) (ty : TypeId) (x : Operand) (hop : o.op = .load ty x) (g : Nat) (hx : a.eval x = .pointer (some ⟨g, 0, none⟩)) (t : TypeId) (cs : Array Value) (fr : Nat × Nat) (d : TypeDesc) (hh : w.heap[g]? = some (.cells cs t fr))
    (hu : P.underlying ty = some d) (hd : (match d with | .struct _ | .array _ _ => true | _ => false) = true) (hi : (P.info? ty).map (·.size) = some cs.size) (hK : K (a.put o.dst (.agg cs)) w) :
    if Region.wanted o (yielded ops a.tmps) = true then Oper.wp P o a w K Q else E := by
  have hw : Region.wanted o (yielded ops a.tmps) = true := by simp [Region.wanted, hg]
  rw [if_pos hw]
  exact wp_load_row ty x hop g hx t cs fr d hh hu hd hi hK
/-- The cells of the copy. -/
structure RefCell (A : Ar) (f0 f1 f2 f3 f4 f5 f6 f7 f8 : Int) (v : Value) (bx : Nat) (W : World) : Prop where
  c0 : W.cell? ⟨bx, 0, none⟩ = some (.int .i64 A.cap)
  c1 : W.cell? ⟨bx, 1, none⟩ = some (.int .i64 A.births)
  c2 : W.cell? ⟨bx, 2, none⟩ = some (.int .i64 A.peak)
  c3 : W.cell? ⟨bx, 3, none⟩ = some (.int .i64 A.faults)
  c4 : W.cell? ⟨bx, 4, none⟩ = some (.int .u64 f0)
  c5 : W.cell? ⟨bx, 5, none⟩ = some (.int .u64 f1)
  c6 : W.cell? ⟨bx, 6, none⟩ = some (.int .u64 f2)
  c7 : W.cell? ⟨bx, 7, none⟩ = some (.int .u64 f3)
  c8 : W.cell? ⟨bx, 8, none⟩ = some (.int .u64 f4)
  c9 : W.cell? ⟨bx, 9, none⟩ = some (.int .u64 f5)
  c10 : W.cell? ⟨bx, 10, none⟩ = some (.int .u64 f6)
  c11 : W.cell? ⟨bx, 11, none⟩ = some (.int .u64 f7)
  c12 : W.cell? ⟨bx, 12, none⟩ = some (.int .u64 f8)
  c13 : W.cell? ⟨bx, 13, none⟩ = some v
  c14 : W.cell? ⟨bx, 14, none⟩ = some (.int .i64 A.t.lays)
  c15 : W.cell? ⟨bx, 15, none⟩ = some (.int .i64 A.t.frees)
  c16 : W.cell? ⟨bx, 16, none⟩ = some (.int .i64 A.t.reads)
  c17 : W.cell? ⟨bx, 17, none⟩ = some (.int .i64 A.t.writes)
  c18 : W.cell? ⟨bx, 18, none⟩ = some (.int .i64 A.t.swaps)
  c19 : W.cell? ⟨bx, 19, none⟩ = some (.int .i64 A.t.adds)
theorem RefIn.cells {w W : World} {bx bz : Nat} {A : Ar} {f0 f1 f2 f3 f4 f5 f6 f7 f8 : Int} {v : Value} (h : RefIn w bx bz (refCells A f0 f1 f2 f3 f4 f5 f6 f7 f8 v) W) : RefCell A f0 f1 f2 f3 f4 f5 f6 f7 f8 v bx W := by
  constructor <;> (rw [h.cell]; rfl)
set_option maxRecDepth 100000 in
set_option maxHeartbeats 4000000 in
theorem refLay_room (A : Ar) (f0 f1 f2 f3 f4 f5 f6 f7 f8 : Int) (v : Value) (l : List RB) (w : World) (h : BlksAt w v l) (hl : l.length ≤ 70000) (hu : used (l.map Prod.fst) ≤ 200000) (hlw : ∀ x, x ∈ l → x.1.ws.length ≤ 70000)
    (a : Option Addr) (n c : Nat) (h1 : 1 ≤ n) (h2 : n ≤ 2048) (hcap : A.cap ≤ 100000) (hr : A.cap < used (l.map Prod.fst) + n) :
    Calls Try.prog 29 #[.agg (refCells A f0 f1 f2 f3 f4 f5 f6 f7 f8 v), .slice a n c] w fun e w' => e = .returned (.tuple #[.agg (refCells A f0 f1 f2 f3 f4 f5 f6 f7 f8 v), .int .u64 0, .int .i64 20]) ∧ Frm.Turn [] w w' := by
  obtain ⟨va, vc, rfl⟩ := h.form
  obtain ⟨fs, hfs⟩ := struct_of under_refA
  have HU := Lib.hid (fun W (hT : Frm.Turn [] w W) => refUsed_any A f0 f1 f2 f3 f4 f5 f6 f7 f8 _ l W (h.step hT) hl hu hlw)
  obtain ⟨q, HQ⟩ : ∃ q, Hid (q = l.length) := ⟨_, Lib.hid rfl⟩
  obtain ⟨s, HSs⟩ : ∃ s, Hid (s = used (l.map Prod.fst)) := ⟨_, Lib.hid rfl⟩
  rw [← HSs.out] at HU hu hr
  rw [← HQ.out] at HU hl ⊢
  obtain ⟨CS, HCS⟩ : ∃ CS, Hid (CS = refCells A f0 f1 f2 f3 f4 f5 f6 f7 f8 (.slice va q vc)) := ⟨_, Lib.hid rfl⟩
  have HSZ : Hid (CS.size = 20) := Lib.hid (by rw [HCS.out]; rfl)
  have HONE : Hid (CS.all (·.oneCell') = true) := Lib.hid (by rw [HCS.out]; exact refCells_one _ _ _ _ _ _ _ _ _ _ _ _ _)
  have HFS := Lib.hid hfs
  rw [← HCS.out]
  have HUU := Lib.hid HU.out
  rw [← HCS.out] at HUU
  clear h hfs hlw HU
  go_enter Try.func29, Try.ntmps29
  go_upto_region 1 with fail
  have hin := RefIn.start w CS #[.int .i64 0, .int .i64 0, .int .i64 0, .int .i64 0, .int .u64 0, .int .u64 0, .int .u64 0, .int .u64 0, .int .u64 0, .int .u64 0, .int .u64 0, .int .u64 0, .int .u64 0, .slice none 0 0, .int .i64 0, .int .i64 0, .int .i64 0, .int .i64 0, .int .i64 0, .int .i64 0] rfl
  obtain ⟨bx, Hx⟩ : ∃ bx, Hid (bx = w.heap.size) := ⟨_, Lib.hid rfl⟩
  obtain ⟨bz, Hz⟩ : ∃ bz, Hid (bz = w.heap.size + 1) := ⟨_, Lib.hid rfl⟩
  rw [← Hz.out, ← Hx.out] at hin ⊢
  generalize (w.alloc (.cells CS 32)).alloc _ = W1 at hin ⊢
  have HIN := Lib.hid hin
  have h0' : ((n : Int) == 0) = false := by simp; omega
  have c0 := (RefIn.cells (by have := hin; rw [HCS.out] at this; exact this)).c0
  have hr1 : decide ((A.cap : Int) < (s : Int) + (n : Int)) = true := by simp; omega
  have ws : IntKind.i64.wrap ((s : Int) + (n : Int)) = (s : Int) + (n : Int) := by simp only [IntKind.wrap_i64]; omega
  have HT1 := Lib.hid hin.turn
  have HRR : Hid (∀ W', Frm.Turn [] W1 W' → W'.rangeAt bx 0 CS.toList) := Lib.hid fun W' hT j u hu => by
    rw [Nat.zero_add, (HIN.out.step hT (by simp) (by simp) (by simp)).cell j]
    simpa using hu
  have HRG := Lib.hid (HRR.out W1 (Frm.Turn.refl [] _))
  have HI20 : Hid ((Try.prog.info? 32).map (·.size) = some CS.toList.length) := Lib.hid (by rw [Array.length_toList, HSZ.out]; exact info_refA)
  clear hin
  go_upto_region 3 with fail
  go_cut [27] (fun s27 W => s27 = .bool true ∧ Frm.Turn [] W1 W)
  case first =>
    refine wp_region_held_drew (S := fun w' => w'.rangeAt bx 0 CS.toList ∧ w'.cell? ⟨bx, 0, none⟩ = some (.int .i64 A.cap)) (by kernel_rfl) ?_ (fun hHeld => ?_)
    · exact ⟨HRG.out, c0⟩
    refine wpAnyH_take (i := 0) (v := _) rfl (by kernel_rfl) (by kernel_rfl) (by kernel_rfl) (fun _ _ _ h => h)
          (yieldsIf_load_mid (by rfl) _ _ rfl bx 0 rfl CS.toList _ (fun w hw => hw.1) HFS.out rfl HI20.out) (by assumption) ?_
    simp only [Act.put, List.setIfInBounds_toArray, List.set_cons_zero, List.set_cons_succ, Array.toArray_toList]
    refine wpAnyH_take (i := 2) (v := ?_) rfl (by kernel_rfl) (by kernel_rfl) (by kernel_rfl) (fun _ _ _ h => h) (Or.inl ⟨by rfl, ?_⟩) (by assumption) ?_
    rotate_left
    · (intro w hSw; (try dsimp only at hSw); go_simp; try with_reducible rfl)
    simp only [Act.put, List.getElem_toArray, List.getElem_cons_succ, List.getElem_cons_zero, List.setIfInBounds_toArray, List.set_cons_zero, List.set_cons_succ]
    refine wpAnyH_take (i := 3) (v := ?_) rfl (by kernel_rfl) (by kernel_rfl) (by kernel_rfl) (fun _ _ _ h => h) (Or.inl ⟨by rfl, ?_⟩) (by assumption) ?_
    rotate_left
    · (intro w hSw; (try dsimp only at hSw); go_simp; try with_reducible rfl)
    simp only [Act.put, List.getElem_toArray, List.getElem_cons_succ, List.getElem_cons_zero, List.setIfInBounds_toArray, List.set_cons_zero, List.set_cons_succ]
    refine wpAnyH_take (i := 5) (v := ?_) rfl (by kernel_rfl) (by kernel_rfl) (by kernel_rfl) (fun _ _ _ h => h) (Or.inl ⟨by rfl, ?_⟩) (by assumption) ?_
    rotate_left
    · (intro w hSw; (try dsimp only at hSw); go_simp; try with_reducible rfl)
    simp only [Act.put, List.getElem_toArray, List.getElem_cons_succ, List.getElem_cons_zero, List.setIfInBounds_toArray, List.set_cons_zero, List.set_cons_succ]
    refine wpAnyH_take (i := 6) (v := ?_) rfl (by kernel_rfl) (by kernel_rfl) (by kernel_rfl) (fun _ _ _ h => h) (Or.inl ⟨by rfl, ?_⟩) (by assumption) ?_
    rotate_left
    · (intro w hSw; (try dsimp only at hSw); go_simp; try with_reducible rfl)
    simp only [Act.put, List.getElem_toArray, List.getElem_cons_succ, List.getElem_cons_zero, List.setIfInBounds_toArray, List.set_cons_zero, List.set_cons_succ]
    refine wpAnyH_ready (rs := [1]) (by kernel_rfl) (by simp) ?_
    refine AllReadyH.cons rfl (fun K hK => ?_) AllReadyH.nil
    simp only [List.getElem_toArray, List.getElem_cons_succ, List.getElem_cons_zero]
    go_simp
    have HK := Lib.hid hK
    clear hK
    go_at_call 46; (with_reducible refine (HUU.out _ (HT1.out.drew)).mono ?_); rintro e w2 ⟨rfl, hT⟩; have HT2 : Hid (Frm.Turn [] W1 w2) := Lib.hid (((Frm.Turn.refl [] W1).drew).trans hT (by simp)); clear hT
    go_wp2_with fail
    refine HK.out _ _ ⟨HRR.out _ HT2.out, HT2.out.cell c0 (by simp)⟩ (fun hHeld => ?_)
    clear HK K
    try simp only [Act.put, List.getElem_toArray, List.getElem_cons_succ, List.getElem_cons_zero, List.setIfInBounds_toArray, List.set_cons_zero, List.set_cons_succ]
    refine wpAnyH_take (i := 4) (v := ?_) rfl (by kernel_rfl) (by kernel_rfl) (by kernel_rfl) (fun _ _ _ h => h) (Or.inl ⟨by rfl, ?_⟩) (by assumption) ?_
    rotate_left
    · (intro w hSw; (try dsimp only at hSw); go_simp; try with_reducible rfl)
    simp only [Act.put, List.getElem_toArray, List.getElem_cons_succ, List.getElem_cons_zero, List.setIfInBounds_toArray, List.set_cons_zero, List.set_cons_succ]
    refine wpAnyH_take (i := 7) (v := ?_) rfl (by kernel_rfl) (by kernel_rfl) (by kernel_rfl) (fun _ _ _ h => h) (Or.inl ⟨by rfl, ?_⟩) (by assumption) ?_
    rotate_left
    · (intro w hSw; (try dsimp only at hSw); go_simp; try with_reducible rfl)
    simp only [Act.put, List.getElem_toArray, List.getElem_cons_succ, List.getElem_cons_zero, List.setIfInBounds_toArray, List.set_cons_zero, List.set_cons_succ]
    refine wpAnyH_done (by kernel_rfl) ?_ _
    go_wp2_with fail
    go_meet
    exact ⟨rfl, HT2.out⟩
  case rest =>
    obtain ⟨rfl, hT⟩ := hcut
    have hin2 := HIN.out.step hT (by simp) (by simp) (by simp)
    have HIN2 := Lib.hid hin2
    obtain ⟨Z, z1, z2⟩ := hin2.res
    have HZ1 := Lib.hid z1
    have HZ2 := Lib.hid z2
    have hld := hin2.told HSZ.out HFS.out
    clear hin2 z1 z2 hT c0 hr1 ws
    go_wp2_with (first
      | (refine wpList_load_row rfl 32 (.tmp 2) rfl bx rfl 32 CS (0, 0) (.struct fs) HIN2.out.own HFS.out rfl (by rw [HSZ.out]; exact info_refA) ?_)
      | (refine wpList_store_row rfl 32 (.tmp 4) (.tmp 28) rfl bz CS rfl rfl 32 Z HZ2.out (by rw [HSZ.out]; exact info_refA) (by rw [HZ1.out, HSZ.out]) HONE.out ?_))
    exact bodyPost_ret (v := .tuple #[.agg CS, .int .u64 0, .int .i64 20]) (by simp [results, Try.results29, asAddr, hld]) rfl ⟨rfl, HIN2.out.end_⟩
end Arn
end Go.Proofs.Ytfbnidjcimcfoaa
