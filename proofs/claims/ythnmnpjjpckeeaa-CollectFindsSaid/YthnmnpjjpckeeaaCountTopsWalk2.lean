/- The walk of CountTops. -/
/- The walk of CountTops, whole. -/
import Derived.Test.YthnmnpjjpckeeaaCountCrew
import Derived.Deep.CutBlock
import Derived.Deep.QuietTactic
import Derived.BigQuiet
set_option linter.unusedVariables false
set_option linter.unusedSimpArgs false
namespace Go.Proofs.Ythnmnpjjpckeeaa
namespace Cnt
open Go.RowKit Go.Maps Arn Pac Clm

/-- Bytes in memory: m of them. -/
def BytesC (W : World) (v : Value) (z : Nat → Int) (m : Nat) : Prop := (∃ ao c, v = .slice ao m c) ∧ (m = 0 ∨ ∃ ga c, v = .slice (some ga) m c ∧ ∀ i, i < m → W.cell? (ga.add i) = some (.int .u8 (z i)))
theorem made_nums (n : Nat) (hn : n ≤ 60000) (w : World) : (Instr.makeSlice 53 (.int .i64 (n : Int)) (.int .i64 (n : Int))).run Try.prog w = .ok (.slice (some ⟨w.heap.size, 0, none⟩) n n) (w.alloc (.cells (nums (fun _ => 0) n).toArray 3)) := by
  obtain ⟨i, h1, h2, h3, h4⟩ := Dr.info_parts Dr.info_int
  have hr := run_make (P := Try.prog) w 53 3 i (.int .i64 0) Dr.under_ints h1 h2 .i64 .i64 n n (by omega) (by omega) (by rw [h4]; omega) (by omega)
  simp only [Int.toNat_natCast, h3, Nat.mul_one] at hr
  have e : madeCells #[.int .i64 0] n = (nums (fun _ => 0) n).toArray := by
    apply Array.toList_inj.1
    rw [toList_madeCells_one]
    simp only [nums]
    apply List.ext_getElem?
    intro j
    by_cases h : j < n <;> simp [h]
  rw [← e]
  exact hr
def oNums (f : Nat → Nat) (n : Nat) : Obj := .cells (nums f n).toArray 3
/-- Two rows of noughts, of lengths n and m. -/
def TwoC (n m : Nat) (W : World) (v u : Value) (W' : World) : Prop :=
  ∃ mb tb, v = .slice (some ⟨mb, 0, none⟩) n n ∧ u = .slice (some ⟨tb, 0, none⟩) m m ∧ mb ≠ tb ∧ W.heap.size ≤ mb ∧ W.heap.size ≤ tb ∧ W'.heap[mb]? = some (oNums (fun _ => 0) n) ∧ W'.heap[tb]? = some (oNums (fun _ => 0) m) ∧ Frm.Turn [] W W'
theorem two_c (n m : Nat) (W : World) : TwoC n m W (.slice (some ⟨W.heap.size, 0, none⟩) n n) (.slice (some ⟨W.heap.size + 1, 0, none⟩) m m) (((W.alloc (oNums (fun _ => 0) n)).alloc (oNums (fun _ => 0) m)).drew) ∧
    TwoC n m W (.slice (some ⟨W.heap.size + 1, 0, none⟩) n n) (.slice (some ⟨W.heap.size, 0, none⟩) m m) (((W.alloc (oNums (fun _ => 0) m)).alloc (oNums (fun _ => 0) n)).drew) := by
  have key : ∀ o1 o2 : Obj, (((W.alloc o1).alloc o2).drew).heap[W.heap.size]? = some o1 ∧ (((W.alloc o1).alloc o2).drew).heap[W.heap.size + 1]? = some o2 ∧ Frm.Turn [] W (((W.alloc o1).alloc o2).drew) := fun o1 o2 => by
    have e1 := World.alloc_heap_new W o1
    have e2 := World.alloc_heap_new (W.alloc o1) o2
    rw [World.size_alloc] at e2
    exact ⟨((Frm.Turn.refl [] _).alloc o2).keep e1 (by simp), e2, (((Frm.Turn.refl [] W).alloc o1).alloc o2).drew⟩
  obtain ⟨a1, a2, a3⟩ := key (oNums (fun _ => 0) n) (oNums (fun _ => 0) m)
  obtain ⟨b1, b2, b3⟩ := key (oNums (fun _ => 0) m) (oNums (fun _ => 0) n)
  exact ⟨⟨_, _, rfl, rfl, by omega, by omega, by omega, a1, a2, a3⟩, ⟨_, _, rfl, rfl, by omega, by omega, by omega, b2, b1, b3⟩⟩
variable {w W W' : World} {b kh tb ob pb n k m : Nat} {rr qq : Nat → Nat} {c : Nat → Option Ct} {A : Ar} {ohs : Obj} {sl : Nat → Nat}
def topX (kh tb ob : Nat) (ohs : Obj) (f g : Nat → Nat) : List (Nat × Obj) := [(kh, ohs), (tb, oNums f 4), (ob, oNums g 15)]
/-- Between two slots. -/
def TopR (w : World) (b kh tb ob : Nat) (ohs : Obj) (sl : Nat → Nat) (m : Nat) (W : World) : Prop :=
  ∃ rr qq c A k, Crew w b (topX kh tb ob ohs (topN sl m) (ownN sl m)) 1 rr qq c A k W ∧ k ≤ 20 + 10 * m ∧ SegA A 4 (fun g j => ((tF sl m g j : Nat) : Int))
/-- While one enters: behind j steps. -/
def MidR (w : World) (b kh tb ob pb : Nat) (ohs op : Obj) (sl : Nat → Nat) (m r q : Nat) (j : Nat) (W : World) : Prop :=
  ∃ rr qq c A k, Crew w b ((pb, op) :: topX kh tb ob ohs (topN sl m) (ownN sl m)) 1 rr qq c A k W ∧ rr 0 = r ∧ c 0 = some (enC (sl m) j) ∧ k ≤ 20 + 10 * m + j ∧ SegA A 4 (fun g y => ((tF sl m g y + con (sl m) 0 (min j (kN (sl m))) g y : Nat) : Int))
theorem mid_step {op : Obj} {r q j : Nat} (h : MidR w b kh tb ob pb ohs op sl m r q j W) (hs : sl m < 15) (hm : m ≤ 40) (hj : j ≤ 20) :
    Calls Try.prog 16 #[.pointer (some ⟨r, 0, none⟩)] W fun e w' => e = .returned (.tuple #[]) ∧ MidR w b kh tb ob pb ohs op sl m r q (j + 1) w' := by
  obtain ⟨rr, qq, c, A, k, S, rfl, hc, hk, I⟩ := h
  refine (S.step (by omega) (by omega) hc).mono ?_
  rintro e w' ⟨he, S'⟩
  refine ⟨he, rr, qq, _, _, _, S', rfl, ?_, by omega, enC_seg I (by omega) ?_ (fun g j => by have := tF_le sl m g j; omega)⟩
  · rw [upd_at, enC_step]
  · have : ∀ s : Fin 15, sgN s.val < 4 := by decide +kernel
    exact this ⟨sl m, hs⟩
theorem sg_lt4 : ∀ s : Fin 15, sgN s.val < 4 := by decide +kernel
/-- The two numbers are one more. -/
theorem mid_end {op : Obj} {r q : Nat} (h : MidR w b kh tb ob pb ohs op sl m r q 9 W) (hs : sl m < 15) :
    TopR w b kh tb ob ohs sl (m + 1) ((W.setCell ⟨tb, sgN (sl m), none⟩ (.int .i64 ((topN sl m (sgN (sl m)) + 1 : Nat) : Int))).setCell ⟨ob, sl m, none⟩ (.int .i64 ((ownN sl m (sl m) + 1 : Nat) : Int))) := by
  obtain ⟨rr, qq, c, A, k, S, _, hc, hk, I⟩ := h
  have S0 := S.fewer
  have hd := S0.dist
  simp only [topX, List.map_cons, List.map_nil, List.nodup_cons, List.mem_cons, List.not_mem_nil, or_false, not_or, not_false_eq_true, and_true, List.nodup_nil] at hd
  obtain ⟨⟨d1, d2⟩, d3⟩ := hd
  have h4 := sg_lt4 ⟨sl m, hs⟩
  dsimp only at h4
  have S1 : Crew w b (topX kh tb ob ohs (topN sl (m + 1)) (ownN sl m)) 1 rr qq c A k _ := S0.poke (x := tb) (j := sgN (sl m)) (v := .int .i64 ((topN sl m (sgN (sl m)) + 1 : Nat) : Int)) (o := oNums (topN sl m) 4) (o' := oNums (topN sl (m + 1)) 4) (by simp [topX]) (by
    have h1 := S0.x (x := tb) (o := oNums (topN sl m) 4) (by simp [topX])
    have := heap_put (i := sgN (sl m)) (.int .i64 ((topN sl m (sgN (sl m)) + 1 : Nat) : Int)) h1
    rw [nums_put _ _ h4, ← topN_succ] at this
    exact this) rfl (fun p hp => by
      simp only [topX, List.mem_cons, List.not_mem_nil, or_false] at hp ⊢
      rcases hp with rfl | rfl | rfl
      · exact .inr ⟨.inl rfl, d1⟩
      · exact .inl rfl
      · exact .inr ⟨.inr (.inr rfl), fun e => d3 e.symm⟩)
  have S2 : Crew w b (topX kh tb ob ohs (topN sl (m + 1)) (ownN sl (m + 1))) 1 rr qq c A k _ := S1.poke (x := ob) (j := sl m) (v := .int .i64 ((ownN sl m (sl m) + 1 : Nat) : Int)) (o := oNums (ownN sl m) 15) (o' := oNums (ownN sl (m + 1)) 15) (by simp [topX]) (by
    have h1 := S1.x (x := ob) (o := oNums (ownN sl m) 15) (by simp [topX])
    have := heap_put (i := sl m) (.int .i64 ((ownN sl m (sl m) + 1 : Nat) : Int)) h1
    rw [nums_put _ _ hs, ← ownN_succ] at this
    exact this) rfl (fun p hp => by
      simp only [topX, List.mem_cons, List.not_mem_nil, or_false] at hp ⊢
      rcases hp with rfl | rfl | rfl
      · exact .inr ⟨.inl rfl, d2⟩
      · exact .inr ⟨.inr (.inl rfl), d3⟩
      · exact .inl rfl)
  refine ⟨rr, qq, c, A, k, S2, by omega, ?_⟩
  have hk9 : min 9 (kN (sl m)) = kN (sl m) := by have := (kN_le (s := sl m) (by omega)).2; omega
  rw [hk9] at I
  exact I
end Cnt
end Go.Proofs.Ythnmnpjjpckeeaa

set_option linter.unusedVariables false
set_option linter.unusedSimpArgs false
namespace Go.Proofs.Ythnmnpjjpckeeaa
namespace Cnt
open Go.RowKit Go.Maps Arn Pac Clm

variable {w W W' : World} {b kh tb ob pb n k m : Nat} {rr qq : Nat → Nat} {c : Nat → Option Ct} {A : Ar} {ohs : Obj} {sl : Nat → Nat}
def HsO (o : Obj) (kh n : Nat) : Prop := ∀ W : World, W.heap[kh]? = some o → HsAt W kh n
theorem hs_obj {base : Nat} {v : Value} (h : W.ownsRow base 25 1 v n (hsV n)) (hn : 0 < n) : ∃ kh c o, v = .slice (some ⟨kh, 0, none⟩) n c ∧ W.heap[kh]? = some o ∧ HsO o kh n ∧ base ≤ kh := by
  rcases h.2 with ⟨hv, hz⟩ | ⟨g, cap, cur, rfl, hb, hh, h1, h2, h3, h4⟩
  · omega
  · refine ⟨g, cap, _, rfl, hh, fun W' hW x hx => ?_, hb⟩
    rw [Frm.cell_row _ _ _ _ _ _ hW]
    have e : (cur.toList.take (n * 1))[x]? = some (.int .u64 (hS x)) := by rw [h4]; exact hsV_get hx
    rw [List.getElem?_take] at e
    split at e
    · simpa using e
    · cases e
/-- Segments, with what the laws of layer 12 need of it. -/
theorem segs4 (w0 w : World) (ht : Frm.Turn [] w0 w) : Calls Try.prog 6 #[.int .i64 4] w fun e W =>
    ∃ b CS kh c ohs A k K, e = .returned (.tuple #[.pointer (some ⟨b, 0, none⟩), .agg CS, .slice (some ⟨kh, 0, none⟩) 4 c]) ∧ CS.size = 20 ∧ CS.all (·.oneCell') = true ∧ Kin w0 b K A k W ∧ kh ∈ K ∧ W.heap[kh]? = some ohs ∧ HsO ohs kh 4 ∧ w0.heap.size ≤ kh ∧ k ≤ 8 ∧ SegA A 4 zF := by
  refine (Segments_any 4 w (by omega)).mono ?_
  rintro e W ⟨b, u, G, A, k, hv, rfl, h1, h2, h3, h4, h5, h6, h7, h8, h9⟩
  obtain ⟨CS, rfl, z1, z2⟩ := h6.row
  obtain ⟨kh, c, o, rfl, g1, g2, g3⟩ := hs_obj h7 (by omega)
  have := ht.size
  exact ⟨b, CS, kh, c, o, A, k, _, rfl, z1, z2, kin_base h1 ht, by simp [Value.ownBlock], g1, g2, by omega, by omega, h3⟩
theorem top_start {K : List Nat} (hk : Kin w b K A k W) (hkh : kh ∈ K) (ho : W.heap[kh]? = some ohs) (hl : w.heap.size ≤ kh) (h8 : k ≤ 8) (I : SegA A 4 zF) {v u : Value} (h2 : TwoC 4 15 W v u W') :
    ∃ tb ob, v = .slice (some ⟨tb, 0, none⟩) 4 4 ∧ u = .slice (some ⟨ob, 0, none⟩) 15 15 ∧ TopR w b kh tb ob ohs sl 0 W' := by
  obtain ⟨tb, ob, rfl, rfl, a1, a2, a3, a4, a5, a6⟩ := h2
  have l1 := hk.lt hkh
  have l2 := hk.turn.size
  have b4 := (Array.getElem?_eq_some_iff.1 a4).1
  have b5 := (Array.getElem?_eq_some_iff.1 a5).1
  have hk' : Kin w b (tb :: ob :: K) A k W' := kin_adds hk a6 (fun q hq => by
    simp only [List.mem_cons] at hq
    rcases hq with rfl | rfl | h
    · exact .inr ⟨a2, b4⟩
    · exact .inr ⟨a3, b5⟩
    · exact .inl h)
  refine ⟨tb, ob, rfl, rfl, fun _ => kh, fun _ => kh, fun _ => none, A, k, crew_new hk' (fun p hp => ?_) ?_ (x := kh) (by simp [hkh]), by omega, by rw [tF_zero]; exact I⟩
  · simp only [topX, List.mem_cons, List.not_mem_nil, or_false] at hp
    rcases hp with rfl | rfl | rfl
    · exact ⟨by simp [hkh], a6.keep ho (by simp), hl⟩
    · exact ⟨by simp, a4, by dsimp only; omega⟩
    · exact ⟨by simp, a5, by dsimp only; omega⟩
  · simp only [topX, List.map_cons, List.map_nil, List.nodup_cons, List.mem_cons, List.not_mem_nil, or_false, not_or, not_false_eq_true, and_true, List.nodup_nil]
    exact ⟨⟨by omega, by omega⟩, a1⟩
def oPlace (g s : Nat) : Obj := .cells #[.int .u64 (hS g), .int .i64 s] 44
theorem mid_start {r q j : Nat} (S : Crew w b (topX kh tb ob ohs (topN sl j) (ownN sl j)) 1 rr qq c A k W) (hk : k ≤ 20 + 10 * j) (I : SegA A 4 (fun g y => ((tF sl j g y : Nat) : Int))) {W3 W4 : World} (hT : Frm.Turn [] W W3) (hs : sl j < 15)
    (hm : MadeC (W3.alloc (oPlace (sgN (sl j)) (sl j))) b ⟨hS (sgN (sl j)), sl j, 0, kN (sl j), 1⟩ r q W4) : MidR w b kh tb ob W3.heap.size ohs (oPlace (sgN (sl j)) (sl j)) sl j r q 0 W4 := by
  have S3 := (S.turn hT).more ((Frm.Turn.refl [] W3).alloc (oPlace (sgN (sl j)) (sl j))) (Nat.le_refl _) (World.alloc_heap_new W3 _)
  have e : (⟨hS (sgN (sl j)), sl j, 0, kN (sl j), 1⟩ : Ct) = enC (sl j) 0 := by unfold enC; simp
  rw [e] at hm
  have S4 := S3.made (i := 0) hm (enC_fit (by omega) 0)
  refine ⟨_, _, _, A, k, S4, upd_at _ _ _, upd_at _ _ _, by omega, ?_⟩
  have e2 : (fun g y => ((tF sl j g y + con (sl j) 0 (min 0 (kN (sl j))) g y : Nat) : Int)) = fun g y => ((tF sl j g y : Nat) : Int) := by
    funext g y
    rw [Nat.zero_min, con_none (Nat.le_refl _)]; rfl
  rw [e2]; exact I
/-- While the counters are read: y of them were. -/
def RdR (w : World) (b kh tb ob : Nat) (ohs : Obj) (sl : Nat → Nat) (m y : Nat) (W : World) : Prop :=
  ∃ rr qq c A k, Crew w b (topX kh tb ob ohs (topN sl m) (ownN sl m)) 1 rr qq c A k W ∧ k ≤ 500 + y ∧ SegA A 4 (fun g j => ((tF sl m g j : Nat) : Int))
theorem RdR.crew {y : Nat} (h : RdR w b kh tb ob ohs sl m y W) : W.heap[kh]? = some ohs ∧ W.heap[tb]? = some (oNums (topN sl m) 4) ∧ W.heap[ob]? = some (oNums (ownN sl m) 15) := by
  obtain ⟨rr, qq, c, A, k, S, _⟩ := h
  exact ⟨S.x (x := kh) (by simp [topX]), S.x (x := tb) (by simp [topX]), S.x (x := ob) (by simp [topX])⟩
theorem RdR.turn {y : Nat} (h : RdR w b kh tb ob ohs sl m y W) (ht : Frm.Turn [] W W') : RdR w b kh tb ob ohs sl m y W' := by
  obtain ⟨rr, qq, c, A, k, S, h1, h2⟩ := h
  exact ⟨rr, qq, c, A, k, S.turn ht, h1, h2⟩
theorem RdR.read {y g j : Nat} (h : RdR w b kh tb ob ohs sl m y W) (hy : y ≤ 100) (hg : g < 4) (hj : j < 7 * 2 ^ g) : Calls Try.prog 53 #[.pointer (some ⟨b, 0, none⟩), .agg #[.int .u64 (hS g), .int .i64 j]] W fun e w' => e = .returned (.tuple #[.int .u64 (tF sl m g j : Nat), .int .i64 0]) ∧ RdR w b kh tb ob ohs sl m (y + 1) w' := by
  obtain ⟨rr, qq, c, A, k, S, h1, h2⟩ := h
  have hp := pow_le (g := g) (by omega)
  refine (S.read (by omega) (hS g) j (hS_64 (by omega)) (by omega) (by omega)).mono ?_
  rintro e w' ⟨he, S'⟩
  obtain ⟨e1, e2, _⟩ := h2.read hg hj
  rw [e1] at he
  exact ⟨he, rr, qq, c, _, _, S', by omega, e2⟩
theorem MidR.crew {op : Obj} {r q j j' : Nat} (h : MidR w b kh tb ob pb ohs op sl j r q j' W) : W.heap[pb]? = some op ∧ W.heap[tb]? = some (oNums (topN sl j) 4) ∧ W.heap[ob]? = some (oNums (ownN sl j) 15) ∧ tb ≠ ob ∧ pb ≠ tb := by
  obtain ⟨rr, qq, c, A, k, S, _⟩ := h
  have hd := S.dist
  simp only [topX, List.map_cons, List.map_nil, List.nodup_cons, List.mem_cons, List.not_mem_nil, or_false, not_or, not_false_eq_true, and_true, List.nodup_nil] at hd
  exact ⟨S.x (x := pb) (by simp), S.x (x := tb) (by simp [topX]), S.x (x := ob) (by simp [topX]), hd.2.2, hd.1.2.1⟩
end Cnt
end Go.Proofs.Ythnmnpjjpckeeaa
