/- The walk of CountTops. -/
import Derived.Test.YtolcpfidmpoipaaCountCrew
import Derived.Deep.CutBlock
import Derived.Deep.QuietTactic
import Derived.BigQuiet
set_option linter.unusedVariables false
set_option linter.unusedSimpArgs false
namespace Go.Proofs.Ytolcpfidmpoipaa
namespace Cnt
open Go.RowKit Go.Maps Arn Pac Clm

/-- Bytes in memory: m of them. -/
def BytesC (W : World) (v : Value) (z : Nat → Int) (m : Nat) : Prop := (∃ ao c, v = .slice ao m c) ∧ (m = 0 ∨ ∃ ga c, v = .slice (some ga) m c ∧ ∀ i, i < m → W.cell? (ga.add i) = some (.int .u8 (z i)))
theorem made_nums (n : Nat) (hn : n ≤ 60000) (w : World) : (Instr.makeSlice 48 (.int .i64 (n : Int)) (.int .i64 (n : Int))).run Try.prog w = .ok (.slice (some ⟨w.heap.size, 0, none⟩) n n) (w.alloc (.cells (nums (fun _ => 0) n).toArray 3)) := by
  obtain ⟨i, h1, h2, h3, h4⟩ := Dr.info_parts Dr.info_int
  have hr := run_make (P := Try.prog) w 48 3 i (.int .i64 0) Dr.under_ints h1 h2 .i64 .i64 n n (by omega) (by omega) (by rw [h4]; omega) (by omega)
  simp only [Int.toNat_natCast, h3, Nat.mul_one] at hr
  have e : madeCells #[.int .i64 0] n = (nums (fun _ => 0) n).toArray := by
    apply Array.toList_inj.1
    rw [toList_madeCells_one]
    simp only [nums]
    apply List.ext_getElem?
    intro j
    by_cases h : j < n <;> simp [h]
  rw [← e]
  exact hr
def oNums (f : Nat → Nat) (n : Nat) : Obj := .cells (nums f n).toArray 3
/-- Two rows of noughts, of lengths n and m. -/
def TwoC (n m : Nat) (W : World) (v u : Value) (W' : World) : Prop :=
  ∃ mb tb, v = .slice (some ⟨mb, 0, none⟩) n n ∧ u = .slice (some ⟨tb, 0, none⟩) m m ∧ mb ≠ tb ∧ W.heap.size ≤ mb ∧ W.heap.size ≤ tb ∧ W'.heap[mb]? = some (oNums (fun _ => 0) n) ∧ W'.heap[tb]? = some (oNums (fun _ => 0) m) ∧ Frm.Turn [] W W'
theorem two_c (n m : Nat) (W : World) : TwoC n m W (.slice (some ⟨W.heap.size, 0, none⟩) n n) (.slice (some ⟨W.heap.size + 1, 0, none⟩) m m) (((W.alloc (oNums (fun _ => 0) n)).alloc (oNums (fun _ => 0) m)).drew) ∧
    TwoC n m W (.slice (some ⟨W.heap.size + 1, 0, none⟩) n n) (.slice (some ⟨W.heap.size, 0, none⟩) m m) (((W.alloc (oNums (fun _ => 0) m)).alloc (oNums (fun _ => 0) n)).drew) := by
  have key : ∀ o1 o2 : Obj, (((W.alloc o1).alloc o2).drew).heap[W.heap.size]? = some o1 ∧ (((W.alloc o1).alloc o2).drew).heap[W.heap.size + 1]? = some o2 ∧ Frm.Turn [] W (((W.alloc o1).alloc o2).drew) := fun o1 o2 => by
    have e1 := World.alloc_heap_new W o1
    have e2 := World.alloc_heap_new (W.alloc o1) o2
    rw [World.size_alloc] at e2
    exact ⟨((Frm.Turn.refl [] _).alloc o2).keep e1 (by simp), e2, (((Frm.Turn.refl [] W).alloc o1).alloc o2).drew⟩
  obtain ⟨a1, a2, a3⟩ := key (oNums (fun _ => 0) n) (oNums (fun _ => 0) m)
  obtain ⟨b1, b2, b3⟩ := key (oNums (fun _ => 0) m) (oNums (fun _ => 0) n)
  exact ⟨⟨_, _, rfl, rfl, by omega, by omega, by omega, a1, a2, a3⟩, ⟨_, _, rfl, rfl, by omega, by omega, by omega, b2, b1, b3⟩⟩
variable {w W W' : World} {b kh tb ob pb n k m : Nat} {rr qq : Nat → Nat} {c : Nat → Option Ct} {A : Ar} {ohs : Obj} {sl : Nat → Nat}
def topX (kh tb ob : Nat) (ohs : Obj) (f g : Nat → Nat) : List (Nat × Obj) := [(kh, ohs), (tb, oNums f 4), (ob, oNums g 15)]
/-- Between two slots. -/
def TopR (w : World) (b kh tb ob : Nat) (ohs : Obj) (sl : Nat → Nat) (m : Nat) (W : World) : Prop :=
  ∃ rr qq c A k, Crew w b (topX kh tb ob ohs (topN sl m) (ownN sl m)) 1 rr qq c A k W ∧ k ≤ 20 + 10 * m ∧ SegA A 4 (fun g j => ((tF sl m g j : Nat) : Int))
/-- While one enters: behind j steps. -/
def MidR (w : World) (b kh tb ob pb : Nat) (ohs op : Obj) (sl : Nat → Nat) (m r q : Nat) (j : Nat) (W : World) : Prop :=
  ∃ rr qq c A k, Crew w b ((pb, op) :: topX kh tb ob ohs (topN sl m) (ownN sl m)) 1 rr qq c A k W ∧ rr 0 = r ∧ c 0 = some (enC (sl m) j) ∧ k ≤ 20 + 10 * m + j ∧ SegA A 4 (fun g y => ((tF sl m g y + con (sl m) 0 (min j (kN (sl m))) g y : Nat) : Int))
theorem mid_step {op : Obj} {r q j : Nat} (h : MidR w b kh tb ob pb ohs op sl m r q j W) (hs : sl m < 15) (hm : m ≤ 40) (hj : j ≤ 20) :
    Calls Try.prog 11 #[.pointer (some ⟨r, 0, none⟩)] W fun e w' => e = .returned (.tuple #[]) ∧ MidR w b kh tb ob pb ohs op sl m r q (j + 1) w' := by
  obtain ⟨rr, qq, c, A, k, S, rfl, hc, hk, I⟩ := h
  refine (S.step (by omega) (by omega) hc).mono ?_
  rintro e w' ⟨he, S'⟩
  refine ⟨he, rr, qq, _, _, _, S', rfl, ?_, by omega, enC_seg I (by omega) ?_ (fun g j => by have := tF_le sl m g j; omega)⟩
  · rw [upd_at, enC_step]
  · have : ∀ s : Fin 15, sgN s.val < 4 := by decide +kernel
    exact this ⟨sl m, hs⟩
theorem sg_lt4 : ∀ s : Fin 15, sgN s.val < 4 := by decide +kernel
/-- The two numbers are one more. -/
theorem mid_end {op : Obj} {r q : Nat} (h : MidR w b kh tb ob pb ohs op sl m r q 9 W) (hs : sl m < 15) :
    TopR w b kh tb ob ohs sl (m + 1) ((W.setCell ⟨tb, sgN (sl m), none⟩ (.int .i64 ((topN sl m (sgN (sl m)) + 1 : Nat) : Int))).setCell ⟨ob, sl m, none⟩ (.int .i64 ((ownN sl m (sl m) + 1 : Nat) : Int))) := by
  obtain ⟨rr, qq, c, A, k, S, _, hc, hk, I⟩ := h
  have S0 := S.fewer
  have hd := S0.dist
  simp only [topX, List.map_cons, List.map_nil, List.nodup_cons, List.mem_cons, List.not_mem_nil, or_false, not_or, not_false_eq_true, and_true, List.nodup_nil] at hd
  obtain ⟨⟨d1, d2⟩, d3⟩ := hd
  have h4 := sg_lt4 ⟨sl m, hs⟩
  dsimp only at h4
  have S1 : Crew w b (topX kh tb ob ohs (topN sl (m + 1)) (ownN sl m)) 1 rr qq c A k _ := S0.poke (x := tb) (j := sgN (sl m)) (v := .int .i64 ((topN sl m (sgN (sl m)) + 1 : Nat) : Int)) (o := oNums (topN sl m) 4) (o' := oNums (topN sl (m + 1)) 4) (by simp [topX]) (by
    have h1 := S0.x (x := tb) (o := oNums (topN sl m) 4) (by simp [topX])
    have := heap_put (i := sgN (sl m)) (.int .i64 ((topN sl m (sgN (sl m)) + 1 : Nat) : Int)) h1
    rw [nums_put _ _ h4, ← topN_succ] at this
    exact this) rfl (fun p hp => by
      simp only [topX, List.mem_cons, List.not_mem_nil, or_false] at hp ⊢
      rcases hp with rfl | rfl | rfl
      · exact .inr ⟨.inl rfl, d1⟩
      · exact .inl rfl
      · exact .inr ⟨.inr (.inr rfl), fun e => d3 e.symm⟩)
  have S2 : Crew w b (topX kh tb ob ohs (topN sl (m + 1)) (ownN sl (m + 1))) 1 rr qq c A k _ := S1.poke (x := ob) (j := sl m) (v := .int .i64 ((ownN sl m (sl m) + 1 : Nat) : Int)) (o := oNums (ownN sl m) 15) (o' := oNums (ownN sl (m + 1)) 15) (by simp [topX]) (by
    have h1 := S1.x (x := ob) (o := oNums (ownN sl m) 15) (by simp [topX])
    have := heap_put (i := sl m) (.int .i64 ((ownN sl m (sl m) + 1 : Nat) : Int)) h1
    rw [nums_put _ _ hs, ← ownN_succ] at this
    exact this) rfl (fun p hp => by
      simp only [topX, List.mem_cons, List.not_mem_nil, or_false] at hp ⊢
      rcases hp with rfl | rfl | rfl
      · exact .inr ⟨.inl rfl, d2⟩
      · exact .inr ⟨.inr (.inl rfl), d3⟩
      · exact .inl rfl)
  refine ⟨rr, qq, c, A, k, S2, by omega, ?_⟩
  have hk9 : min 9 (kN (sl m)) = kN (sl m) := by have := (kN_le (s := sl m) (by omega)).2; omega
  rw [hk9] at I
  exact I
end Cnt
end Go.Proofs.Ytolcpfidmpoipaa
