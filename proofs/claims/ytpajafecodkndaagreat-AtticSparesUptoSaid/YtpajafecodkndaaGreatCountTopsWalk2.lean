/- Counts beside an arena, some blocks that lie as they lay, rows of numbers. -/
/- The walk of CountTops. -/
/- The walk of CountTops, whole. -/
import Derived.Test.YtpajafecodkndaaGreatCountFirst
import Derived.Test.YtpajafecodkndaaGreatCollPlain
import Derived.Deep.CutBlock
import Derived.Deep.QuietTactic
import Derived.BigQuiet
set_option linter.unusedVariables false
set_option linter.unusedSimpArgs false
namespace Go.Proofs.YtpajafecodkndaaGreat
namespace Cnt
open Go.RowKit Go.Maps Arn Pac Clm

/-! ### rows -/
def nums (f : Nat → Nat) (n : Nat) : List Value := (List.range n).map fun i => .int .i64 (f i : Int)
def bools (f : Nat → Bool) (n : Nat) : List Value := (List.range n).map fun i => .bool (f i)
def ptrsC (rr : Nat → Nat) (c : Nat → Option Ct) (n : Nat) : List Value := (List.range n).map fun i => if (c i).isSome then .pointer (some ⟨rr i, 0, none⟩) else .pointer none
theorem row_get {g : Nat → Value} {n i : Nat} (h : i < n) : ((List.range n).map g)[i]? = some (g i) := by simp [h]
theorem row_put {g g' : Nat → Value} {n i : Nat} (h : i < n) (hg : ∀ j, j ≠ i → g' j = g j) : ((List.range n).map g).set i (g' i) = (List.range n).map g' := by
  apply List.ext_getElem?
  intro j
  rw [List.getElem?_set]
  by_cases e : i = j
  · subst e; simp [h]
  · rw [if_neg e]
    by_cases hj : j < n
    · simp [hj, hg j (fun e2 => e e2.symm)]
    · simp [hj]
theorem nums_put (f : Nat → Nat) {n i : Nat} (v : Nat) (h : i < n) : (nums f n).set i (.int .i64 (v : Int)) = nums (upd f i v) n := by
  have := row_put (g := fun i => .int .i64 (f i : Int)) (g' := fun j => .int .i64 ((upd f i v j : Nat) : Int)) h (fun j hj => by rw [upd_ne _ _ hj])
  simp only [upd_at] at this
  exact this
theorem bools_put (f : Nat → Bool) {n i : Nat} (v : Bool) (h : i < n) : (bools f n).set i (.bool v) = bools (upd f i v) n := by
  have := row_put (g := fun i => .bool (f i)) (g' := fun j => .bool (upd f i v j)) h (fun j hj => by rw [upd_ne _ _ hj])
  simp only [upd_at] at this
  exact this
theorem ptrs_put (rr : Nat → Nat) (c : Nat → Option Ct) {n i : Nat} (C : Ct) (r : Nat) (h : i < n) : (ptrsC rr c n).set i (.pointer (some ⟨r, 0, none⟩)) = ptrsC (upd rr i r) (upd c i (some C)) n := by
  have := row_put (g := fun i => if (c i).isSome then .pointer (some ⟨rr i, 0, none⟩) else .pointer none) (g' := fun j => if (upd c i (some C) j).isSome then .pointer (some ⟨upd rr i r j, 0, none⟩) else .pointer none) h (fun j hj => by rw [upd_ne _ _ hj, upd_ne _ _ hj])
  simp only [upd_at, Option.isSome_some, if_true] at this
  exact this
theorem ptrs_keep (rr : Nat → Nat) (c : Nat → Option Ct) {n i : Nat} {C : Ct} (C' : Ct) (h : c i = some C) : ptrsC rr (upd c i (some C')) n = ptrsC rr c n := by
  unfold ptrsC
  apply List.map_congr_left
  intro j hj
  by_cases e : j = i
  · subst e; rw [upd_at, h]; rfl
  · rw [upd_ne _ _ e]
theorem cell_of {W : World} {g i : Nat} {l : List Value} {t : TypeId} {v : Value} (h : W.heap[g]? = some (.cells l.toArray t (0, 0))) (hv : l[i]? = some v) : W.cell? ⟨g, i, none⟩ = some v ∧ W.frozen? ⟨g, i, none⟩ = false := by
  refine ⟨?_, Frm.frozen_row _ _ _ _ _ h⟩
  rw [Frm.cell_row _ _ _ _ _ _ h]
  simpa using hv
theorem heap_put {W : World} {g i : Nat} {l : List Value} {t : TypeId} (v : Value) (h : W.heap[g]? = some (.cells l.toArray t (0, 0))) : (W.setCell ⟨g, i, none⟩ v).heap[g]? = some (.cells (l.set i v).toArray t (0, 0)) := by
  rw [Frm.heap_set _ _ _ _ _ _ _ h]
  simp
/-! ### the crew -/
def crewK (X : List (Nat × Obj)) (n : Nat) (rr qq : Nat → Nat) : List Nat := X.map Prod.fst ++ ((List.range n).map rr ++ (List.range n).map qq)
variable {w W W' : World} {b n k i : Nat} {X X' : List (Nat × Obj)} {rr qq : Nat → Nat} {c : Nat → Option Ct} {A : Ar} {C : Ct}
theorem in_x {p : Nat × Obj} (h : p ∈ X) : p.1 ∈ crewK X n rr qq := List.mem_append_left _ (List.mem_map_of_mem h)
theorem in_r (h : i < n) : rr i ∈ crewK X n rr qq := List.mem_append_right _ (List.mem_append_left _ (List.mem_map.2 ⟨i, List.mem_range.2 h, rfl⟩))
theorem in_q (h : i < n) : qq i ∈ crewK X n rr qq := List.mem_append_right _ (List.mem_append_right _ (List.mem_map.2 ⟨i, List.mem_range.2 h, rfl⟩))
theorem mem_crew {q : Nat} (h : q ∈ crewK X n rr qq) : (∃ p, p ∈ X ∧ p.1 = q) ∨ (∃ i, i < n ∧ rr i = q) ∨ ∃ i, i < n ∧ qq i = q := by
  simp only [crewK, List.mem_append, List.mem_map, List.mem_range] at h
  exact h
end Cnt
end Go.Proofs.YtpajafecodkndaaGreat

set_option linter.unusedVariables false
set_option linter.unusedSimpArgs false
namespace Go.Proofs.YtpajafecodkndaaGreat
namespace Cnt
open Go.RowKit Go.Maps Arn Pac Clm

/-- Bytes in memory: m of them. -/
def BytesC (W : World) (v : Value) (z : Nat → Int) (m : Nat) : Prop := (∃ ao c, v = .slice ao m c) ∧ (m = 0 ∨ ∃ ga c, v = .slice (some ga) m c ∧ ∀ i, i < m → W.cell? (ga.add i) = some (.int .u8 (z i)))
theorem made_nums (n : Nat) (hn : n ≤ 60000) (w : World) : (Instr.makeSlice 116 (.int .i64 (n : Int)) (.int .i64 (n : Int))).run Tryz.prog w = .ok (.slice (some ⟨w.heap.size, 0, none⟩) n n) (w.alloc (.cells (nums (fun _ => 0) n).toArray 3)) := by
  obtain ⟨i, h1, h2, h3, h4⟩ := Dr.info_parts Dr.info_int
  have hr := run_make (P := Tryz.prog) w 116 3 i (.int .i64 0) Dr.under_ints h1 h2 .i64 .i64 n n (by omega) (by omega) (by rw [h4]; omega) (by omega)
  simp only [Int.toNat_natCast, h3, Nat.mul_one] at hr
  have e : madeCells #[.int .i64 0] n = (nums (fun _ => 0) n).toArray := by
    apply Array.toList_inj.1
    rw [toList_madeCells_one]
    simp only [nums]
    apply List.ext_getElem?
    intro j
    by_cases h : j < n <;> simp [h]
  rw [← e]
  exact hr
def oNums (f : Nat → Nat) (n : Nat) : Obj := .cells (nums f n).toArray 3
/-- Two rows of noughts, of lengths n and m. -/
def TwoC (n m : Nat) (W : World) (v u : Value) (W' : World) : Prop :=
  ∃ mb tb, v = .slice (some ⟨mb, 0, none⟩) n n ∧ u = .slice (some ⟨tb, 0, none⟩) m m ∧ mb ≠ tb ∧ W.heap.size ≤ mb ∧ W.heap.size ≤ tb ∧ W'.heap[mb]? = some (oNums (fun _ => 0) n) ∧ W'.heap[tb]? = some (oNums (fun _ => 0) m) ∧ Frm.Turn [] W W'
theorem two_c (n m : Nat) (W : World) : TwoC n m W (.slice (some ⟨W.heap.size, 0, none⟩) n n) (.slice (some ⟨W.heap.size + 1, 0, none⟩) m m) (((W.alloc (oNums (fun _ => 0) n)).alloc (oNums (fun _ => 0) m)).drew) ∧
    TwoC n m W (.slice (some ⟨W.heap.size + 1, 0, none⟩) n n) (.slice (some ⟨W.heap.size, 0, none⟩) m m) (((W.alloc (oNums (fun _ => 0) m)).alloc (oNums (fun _ => 0) n)).drew) := by
  have key : ∀ o1 o2 : Obj, (((W.alloc o1).alloc o2).drew).heap[W.heap.size]? = some o1 ∧ (((W.alloc o1).alloc o2).drew).heap[W.heap.size + 1]? = some o2 ∧ Frm.Turn [] W (((W.alloc o1).alloc o2).drew) := fun o1 o2 => by
    have e1 := World.alloc_heap_new W o1
    have e2 := World.alloc_heap_new (W.alloc o1) o2
    rw [World.size_alloc] at e2
    exact ⟨((Frm.Turn.refl [] _).alloc o2).keep e1 (by simp), e2, (((Frm.Turn.refl [] W).alloc o1).alloc o2).drew⟩
  obtain ⟨a1, a2, a3⟩ := key (oNums (fun _ => 0) n) (oNums (fun _ => 0) m)
  obtain ⟨b1, b2, b3⟩ := key (oNums (fun _ => 0) m) (oNums (fun _ => 0) n)
  exact ⟨⟨_, _, rfl, rfl, by omega, by omega, by omega, a1, a2, a3⟩, ⟨_, _, rfl, rfl, by omega, by omega, by omega, b2, b1, b3⟩⟩
variable {w W W' : World} {b kh tb ob pb n k m : Nat} {rr qq : Nat → Nat} {c : Nat → Option Ct} {A : Ar} {ohs : Obj} {sl : Nat → Nat}
def topX (kh tb ob : Nat) (ohs : Obj) (f g : Nat → Nat) : List (Nat × Obj) := [(kh, ohs), (tb, oNums f 4), (ob, oNums g 15)]
theorem sg_lt4 : ∀ s : Fin 15, sgN s.val < 4 := by decide +kernel
end Cnt
end Go.Proofs.YtpajafecodkndaaGreat

set_option linter.unusedVariables false
set_option linter.unusedSimpArgs false
namespace Go.Proofs.YtpajafecodkndaaGreat
namespace Cnt
open Go.RowKit Go.Maps Arn Pac Clm

variable {w W W' : World} {b kh tb ob pb n k m : Nat} {rr qq : Nat → Nat} {c : Nat → Option Ct} {A : Ar} {ohs : Obj} {sl : Nat → Nat}
def HsO (o : Obj) (kh n : Nat) : Prop := ∀ W : World, W.heap[kh]? = some o → HsAt W kh n
theorem hs_obj {base : Nat} {v : Value} (h : W.ownsRow base 31 1 v n (hsV n)) (hn : 0 < n) : ∃ kh c o, v = .slice (some ⟨kh, 0, none⟩) n c ∧ W.heap[kh]? = some o ∧ HsO o kh n ∧ base ≤ kh := by
  rcases h.2 with ⟨hv, hz⟩ | ⟨g, cap, cur, rfl, hb, hh, h1, h2, h3, h4⟩
  · omega
  · refine ⟨g, cap, _, rfl, hh, fun W' hW x hx => ?_, hb⟩
    rw [Frm.cell_row _ _ _ _ _ _ hW]
    have e : (cur.toList.take (n * 1))[x]? = some (.int .u64 (hS x)) := by rw [h4]; exact hsV_get hx
    rw [List.getElem?_take] at e
    split at e
    · simpa using e
    · cases e
/-- Segments, with what the laws of layer 12 need of it. -/
theorem segs4 (w0 w : World) (ht : Frm.Turn [] w0 w) : Calls Tryz.prog 9 #[.int .i64 4] w fun e W =>
    ∃ b CS kh c ohs A k K, e = .returned (.tuple #[.pointer (some ⟨b, 0, none⟩), .agg CS, .slice (some ⟨kh, 0, none⟩) 4 c]) ∧ CS.size = 20 ∧ CS.all (·.oneCell') = true ∧ Kin w0 b K A k W ∧ kh ∈ K ∧ W.heap[kh]? = some ohs ∧ HsO ohs kh 4 ∧ w0.heap.size ≤ kh ∧ k ≤ 8 ∧ SegA A 4 zF := by
  refine (Segments_any 4 w (by omega)).mono ?_
  rintro e W ⟨b, u, G, A, k, hv, rfl, h1, h2, h3, h4, h5, h6, h7, h8, h9⟩
  obtain ⟨CS, rfl, z1, z2⟩ := h6.row
  obtain ⟨kh, c, o, rfl, g1, g2, g3⟩ := hs_obj h7 (by omega)
  have := ht.size
  exact ⟨b, CS, kh, c, o, A, k, _, rfl, z1, z2, kin_base h1 ht, by simp [Value.ownBlock], g1, g2, by omega, by omega, h3⟩
def oPlace (g s : Nat) : Obj := .cells #[.int .u64 (hS g), .int .i64 s] 46
end Cnt
end Go.Proofs.YtpajafecodkndaaGreat
