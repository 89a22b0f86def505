/- The document's own answer for stocks: Has, Take, Give. -/
import Derived.Test.YtnifdbmhpkkgfaaLeastAppend
import Derived.Test.YtnifdbmhpkkgfaaLeastStock
set_option linter.unusedVariables false
set_option linter.unusedSimpArgs false
namespace Go.Proofs.Ytnifdbmhpkkgfaa
namespace Lst
open Go.RowKit Hp

/-- A slice that holds l, in one block or nil. -/
def LAt (w : World) (v : Value) (l : List Nat) : Prop := w.ownsRow 0 3 1 v l.length (ints l)
theorem LAt.turn {w w' : World} {v : Value} {l F : List Nat} (h : LAt w v l) (ht : Frm.Turn F w w') (hn : ∀ k, v.ownBlock = some k → k ∉ F) : LAt w' v l := Frm.owns_turn h ht hn
theorem LAt.lt {w : World} {v : Value} {l : List Nat} (h : LAt w v l) : ∀ k, v.ownBlock = some k → k < w.heap.size := fun k hk => (World.ownsRow.lt h k hk).2
theorem LAt.cases {w : World} {v : Value} {l : List Nat} (h : LAt w v l) : (v = .slice none 0 0 ∧ l = []) ∨ ∃ g c, v = .slice (some ⟨g, 0, none⟩) l.length c ∧ ∀ i, i < l.length → w.cell? ⟨g, i, none⟩ = some (.int .i64 (at_ l i : Int)) := by
  have h0 := h
  rcases h.2 with ⟨rfl, hl⟩ | ⟨g, cap, cur, rfl, _, hg, _⟩
  · exact Or.inl ⟨rfl, List.eq_nil_of_length_eq_zero hl⟩
  · refine Or.inr ⟨g, cap, rfl, fun i hi => ?_⟩
    have := World.ownsRow.cells h0 (g := g) rfl i _ (ints_at l i hi)
    have hadd : (⟨g, 0, none⟩ : Addr).add i = ⟨g, i, none⟩ := by unfold Addr.add; split <;> simp_all
    rwa [hadd] at this

theorem mem_iff_at (l : List Nat) (k : Int) : (∃ i, i < l.length ∧ (at_ l i : Int) = k) ↔ 0 ≤ k ∧ k.toNat ∈ l := by
  constructor
  · rintro ⟨i, hi, rfl⟩
    exact ⟨by omega, by simpa using at_mem hi⟩
  · rintro ⟨h0, h⟩
    obtain ⟨i, hi, he⟩ := mem_at h
    exact ⟨i, hi, by omega⟩
def hasB (l : List Nat) (k : Int) : Bool := decide (0 ≤ k) && l.contains k.toNat
theorem hasB_true {l : List Nat} {k : Int} : hasB l k = true ↔ ∃ i, i < l.length ∧ (at_ l i : Int) = k := by
  rw [mem_iff_at]; simp [hasB]
theorem hasB_false {l : List Nat} {k : Int} : hasB l k = false ↔ ∀ i, i < l.length → (at_ l i : Int) ≠ k := by
  rw [← Bool.not_eq_true, hasB_true]; simp

set_option maxHeartbeats 400000 in
theorem rhas_row (most high : Int) (g c : Nat) (l : List Nat) (k : Int) (w : World) (hl : l.length ≤ 65536) (hc : ∀ i, i < l.length → w.cell? ⟨g, i, none⟩ = some (.int .i64 (at_ l i : Int))) :
    Calls Try.prog 16 #[.agg #[.int .i64 most, .int .i64 high, .slice (some ⟨g, 0, none⟩) l.length c], .int .i64 k] w fun e w' => e = .returned (.bool (hasB l k)) ∧ Frm.Turn [] w w' := by
  obtain ⟨W, hW⟩ : ∃ W, W = w.alloc (.cells #[.int .i64 most, .int .i64 high, .slice (some ⟨g, 0, none⟩) l.length c] 37) := ⟨_, rfl⟩
  have HT : Hid (Frm.Turn [] w W) := Lib.hid (by rw [hW]; exact (Frm.Turn.refl [] w).alloc _)
  have hcW : ∀ i, i < l.length → W.cell? ⟨g, i, none⟩ = some (.int .i64 (at_ l i : Int)) := fun i hi => HT.out.cell (hc i hi) (by simp)
  have HC := Lib.hid hcW
  clear hcW hc
  go_enter Try.func16, Try.ntmps16
  go_wp2
  rw [← hW]
  clear hW
  go_loop [6, 10] (fun _ i => ∃ j : Nat, j ≤ l.length ∧ i = .int .i64 (j : Int) ∧ ∀ m, m < j → (at_ l m : Int) ≠ k) (fun _ i => l.length - (intOf i).toNat)
  case atStart => exact ⟨0, Nat.zero_le _, rfl, fun m hm => absurd hm (Nat.not_lt_zero _)⟩
  case round =>
    obtain ⟨j, hj, rfl, hall⟩ := hrel
    have HA := Lib.hid hall
    clear hall
    by_cases hlt : j < l.length
    · have hcell := HC.out j hlt
      obtain ⟨x, hx⟩ : ∃ x : Int, x = (at_ l j : Int) := ⟨_, rfl⟩
      rw [← hx] at hcell
      have HX := Lib.hid hx
      clear hx
      cases hev : (x == k) with
      | true =>
        go_wp2
        go_ret
        exact ⟨by rw [(hasB_true (l := l) (k := k)).2 ⟨j, hlt, by have := HX.out; simp at hev; omega⟩]; rfl, HT.out⟩
      | false =>
        go_wp2
        go_round
        case rel =>
          refine ⟨j + 1, by omega, by go_num, fun m hm => ?_⟩
          rcases Nat.lt_succ_iff_lt_or_eq.1 hm with h | rfl
          · exact HA.out m h
          · have := HX.out; simp at hev; omega
        case measure => simp [intOf]; omega
    · go_wp2
      go_ret
      exact ⟨by rw [(hasB_false (l := l) (k := k)).2 (fun m hm => HA.out m (by omega))]; rfl, HT.out⟩
set_option maxHeartbeats 400000 in
theorem rhas_nil (most high : Int) (k : Int) (w : World) :
    Calls Try.prog 16 #[.agg #[.int .i64 most, .int .i64 high, .slice none 0 0], .int .i64 k] w fun e w' => e = .returned (.bool false) ∧ Frm.Turn [] w w' := by
  go_enter Try.func16, Try.ntmps16
  go_wp2
  refine wp_loop_rounds 1 ?_
  rw [rounds_succ]
  go_wp2
  go_ret
  exact ⟨rfl, (Frm.Turn.refl [] w).alloc _⟩
theorem rhas_any {w : World} {v : Value} {l : List Nat} (h : LAt w v l) (hl : l.length ≤ 65536) (most high k : Int) (t : Bool) (ht : hasB l k = t) :
    Calls Try.prog 16 #[.agg #[.int .i64 most, .int .i64 high, v], .int .i64 k] w fun e w' => e = .returned (.bool t) ∧ Frm.Turn [] w w' := by
  subst ht
  rcases h.cases with ⟨rfl, rfl⟩ | ⟨g, c, rfl, hc⟩
  · exact (rhas_nil most high k w).mono fun _ _ ⟨e, h⟩ => ⟨by rw [e]; simp [hasB], h⟩
  · exact rhas_row most high g c l k w hl hc

theorem info_intl : (Try.prog.info? 3).map (fun i => (i.zero, i.size, i.bytes)) = some (some (.int .i64 0), 1, 8) := by kernel_rfl
theorem under_ints : Try.prog.underlying 35 = some (.slice 3) := by kernel_rfl
theorem ints_one (l : List Nat) : ∀ u ∈ ints l, u.oneCell' = true := by
  intro u hu
  simp [ints] at hu
  obtain ⟨a, _, rfl⟩ := hu
  rfl
def RTakeEnd (most high : Nat) (l : List Nat) (v : Value) (w : World) (e : Ending) (w' : World) : Prop :=
  (∃ (x : Nat) (v' : Value), e = .returned (.tuple #[.agg #[.int .i64 (most : Int), .int .i64 ((max high x : Nat) : Int), v'], .int .i64 (x : Int)]) ∧ 1 ≤ x ∧ x ≤ most ∧ x ∉ l ∧ (∀ k, 1 ≤ k → k < x → k ∈ l) ∧
    LAt w' v' (l ++ [x]) ∧ (∀ k, v'.ownBlock = some k → w.heap.size ≤ k) ∧ Frm.Turn [] w w') ∨
  (e = .returned (.tuple #[.agg #[.int .i64 (most : Int), .int .i64 (high : Int), v], .int .i64 0]) ∧ (∀ k, 1 ≤ k → k ≤ most → k ∈ l) ∧ Frm.Turn [] w w')

/-- The frame of Take: its own two variables, the rest as it was. -/
structure RTakeAt (w wr : World) (most high : Nat) (v : Value) : Prop where
  box : wr.heap[w.heap.size]? = some (.cells #[.int .i64 (most : Int), .int .i64 (high : Int), v] 37)
  res : wr.heap[w.heap.size + 1]? = some (.cells #[.int .i64 0, .int .i64 0, .slice none 0 0] 37)
  turn : Frm.Turn [] w wr
/-- The cells of the two variables, one by one. -/
structure RCells (wr : World) (B : Nat) (x y v : Value) : Prop where
  c0 : wr.cell? ⟨B, 0, none⟩ = some x
  c1 : wr.cell? ⟨B, 1, none⟩ = some y
  c2 : wr.cell? ⟨B, 2, none⟩ = some v
  f0 : wr.frozen? ⟨B, 0, none⟩ = false
  f1 : wr.frozen? ⟨B, 1, none⟩ = false
  f2 : wr.frozen? ⟨B, 2, none⟩ = false
theorem rcells_of {wr : World} {B : Nat} {x y v : Value} {t : TypeId} (h : wr.heap[B]? = some (.cells #[x, y, v] t)) : RCells wr B x y v :=
  ⟨(Frm.cell_row wr B 0 _ _ _ h).trans rfl, (Frm.cell_row wr B 1 _ _ _ h).trans rfl, (Frm.cell_row wr B 2 _ _ _ h).trans rfl, Frm.frozen_row wr B 0 _ _ h, Frm.frozen_row wr B 1 _ _ h, Frm.frozen_row wr B 2 _ _ h⟩
def RTakeRel (w : World) (most high : Nat) (v : Value) (l : List Nat) (i : Value) (wr : World) : Prop :=
  ∃ n : Nat, 1 ≤ n ∧ n ≤ most + 1 ∧ i = .int .i64 (n : Int) ∧ (∀ k, 1 ≤ k → k < n → k ∈ l) ∧ RTakeAt w wr most high v

/-- What lay there before the two appends lies there behind them. -/
theorem rtake_keeps {w2 w3 w5 : World} {o o' : Obj} {v1 : Value} {B k2 : Nat} {x : Obj} (h3 : (w2.alloc o).grownBy w3 (Value.slice (some ⟨w2.heap.size, 0, none⟩) 0 k2).ownBlock) (h5 : (w3.alloc o').grownBy w5 v1.ownBlock)
    (hl : v1.ownBlock = (Value.slice (some ⟨w2.heap.size, 0, none⟩) 0 k2).ownBlock ∨ v1.ownBlock = some (w2.alloc o).heap.size) (hB : B < w2.heap.size) (hx : w2.heap[B]? = some x) : w5.heap[B]? = some x := by
  have h1 : (w2.alloc o).heap[B]? = some x := by rw [Below.heap_alloc _ _ _ hB]; exact hx
  have h2 : w3.heap[B]? = some x := by rw [h3.block B (by simp; omega) (by simp [Value.ownBlock]; omega)]; exact h1
  have h6 := h3.size
  simp at h6
  rw [h5.block B (by simp; omega) (by rcases hl with h | h <;> rw [h] <;> simp [Value.ownBlock] <;> omega), Below.heap_alloc _ _ _ (by omega)]
  exact h2
theorem rtake_done {w w2 w3 w5 w' : World} {o o' : Obj} {v1 v5 : Value} {k2 most high high' n : Nat} {l : List Nat} {e : Ending} (hT : Frm.Turn [] w w2) (h3 : (w2.alloc o).grownBy w3 (Value.slice (some ⟨w2.heap.size, 0, none⟩) 0 k2).ownBlock) (h5 : (w3.alloc o').grownBy w5 v1.ownBlock)
    (hl3 : v1.ownBlock = (Value.slice (some ⟨w2.heap.size, 0, none⟩) 0 k2).ownBlock ∨ v1.ownBlock = some (w2.alloc o).heap.size) (hl5 : v5.ownBlock = v1.ownBlock ∨ v5.ownBlock = some (w3.alloc o').heap.size)
    (hown : w5.ownsRow 0 3 1 v5 (l.length + 1) (ints l ++ [.int .i64 (n : Int)])) (hB : w.heap.size < w2.heap.size) (he : e = .returned (.tuple #[.agg #[.int .i64 (most : Int), .int .i64 (high' : Int), v5], .int .i64 (n : Int)])) (hh : high' = max high n)
    (hn1 : 1 ≤ n) (hn2 : n ≤ most) (hm : hasB l n = false) (hall : ∀ k, 1 ≤ k → k < n → k ∈ l) (hT' : Frm.Turn [w.heap.size, w.heap.size + 1] w5 w') (v : Value) (hB2 : w.heap.size + 1 < w2.heap.size) : RTakeEnd most high l v w e w' := by
  have s3 := h3.size
  have s5 := h5.size
  simp at s3 s5
  have hb1 : ∀ k, v1.ownBlock = some k → w2.heap.size ≤ k := fun k hk => by
    rcases hl3 with h | h <;> rw [h] at hk <;> simp [Value.ownBlock] at hk <;> omega
  have hb5 : ∀ k, v5.ownBlock = some k → w2.heap.size ≤ k := fun k hk => by
    rcases hl5 with h | h
    · exact hb1 k (by rw [← h]; exact hk)
    · rw [h] at hk; simp at hk; omega
  have t3 : Frm.Turn [] w w3 := (hT.alloc o).trans (Frm.Turn.of_grown h3) (fun k hk => by simp [Value.ownBlock] at hk; subst hk; right; omega)
  have t5 : Frm.Turn [] w w5 := (t3.alloc o').trans (Frm.Turn.of_grown h5) (fun k hk => by
    right
    have := hb1 k (by simpa using hk)
    omega)
  have hl : ints l ++ [Value.int .i64 (n : Int)] = ints (l ++ [n]) := by simp [ints]
  rw [hl] at hown
  subst hh
  refine Or.inl ⟨n, v5, he, hn1, hn2, fun hc => ?_, hall, ?_, fun k hk => ?_, t5.trans hT' (fun k hk => by simp at hk; right; omega)⟩
  · have := (mem_iff_at l (n : Int)).2 ⟨by omega, by simpa using hc⟩
    rw [hasB_false] at hm
    obtain ⟨i, hi, h⟩ := this
    exact hm i hi h
  · have hlen : (l ++ [n]).length = l.length + 1 := by simp
    unfold LAt
    rw [hlen]
    exact Frm.owns_turn hown hT' (fun k hk => by have := hb5 k hk; simp; omega)
  · have := hb5 k hk
    omega
set_option maxHeartbeats 2000000 in
theorem rtake_any {w : World} {ao : Option Addr} {c : Nat} {l : List Nat} (h : LAt w (.slice ao l.length c) l) (hl : l.length ≤ 65535) (most high : Nat) (hm : most ≤ 65535) :
    Calls Try.prog 14 #[.agg #[.int .i64 (most : Int), .int .i64 (high : Int), .slice ao l.length c]] w (RTakeEnd most high l (.slice ao l.length c) w) := by
  have H := Lib.hid h
  clear h
  obtain ⟨i0, hi, hz0, hz1, hz2⟩ := info_parts info_intl
  go_enter Try.func14, Try.ntmps14
  go_wp2
  go_loopw [4] (fun i wr => RTakeRel w most high (.slice ao l.length c) l i wr) (fun i _ => most + 1 - (intOf i).toNat)
  case atStart =>
    have hz1 := heap_alloc_new w (.cells #[.int .i64 (most : Int), .int .i64 (high : Int), .slice ao l.length c] 37)
    refine ⟨1, by omega, by omega, rfl, fun k k1 k2 => absurd k1 (by omega), ?_, ?_, ((Frm.Turn.refl [] w).alloc _).alloc _⟩
    · rw [Below.heap_alloc _ _ _ (by simp)]; exact hz1
    · have := heap_alloc_new (w.alloc (.cells #[.int .i64 (most : Int), .int .i64 (high : Int), .slice ao l.length c] 37)) (.cells #[.int .i64 0, .int .i64 0, .slice none 0 0] 37)
      simpa using this
  case round =>
    obtain ⟨n, hn1, hn2, rfl, hall, hA⟩ := hrel
    obtain ⟨b0, b1, b2, _, _, _⟩ := rcells_of hA.box
    obtain ⟨r0, r1, r2, s0, s1, s2⟩ := rcells_of hA.res
    have HA := Lib.hid hA
    have HALL := Lib.hid hall
    clear hA hall
    by_cases hlt : n ≤ most
    · cases hm : hasB l n with
      | true =>
        have HM := Lib.hid hm
        clear hm
        go_wp2_with (go_at_call 16; (with_reducible refine (rhas_any (H.out.turn HA.out.turn (by simp)) (by omega) _ _ _ true HM.out).mono ?_); rintro e w2 ⟨rfl, hT2⟩)
        go_roundw
        case rel =>
          refine ⟨n + 1, by omega, by omega, by go_num, fun k k1 k2 => ?_, hT2.keep HA.out.box (by simp), hT2.keep HA.out.res (by simp), HA.out.turn.trans hT2 (by simp)⟩
          rcases Nat.lt_succ_iff_lt_or_eq.1 k2 with h | rfl
          · exact HALL.out k k1 h
          · have := (mem_iff_at l (k : Int)).1 (hasB_true.1 HM.out)
            simpa using this.2
        case measure => simp [intOf]; omega
      | false =>
        have HM := Lib.hid hm
        clear hm
        have hBW := HA.out.turn.size
        go_wp2_with fail
        refine (rhas_any (H.out.turn HA.out.turn (by simp)) (by omega) _ _ _ false HM.out).mono ?_
        rintro e w2 ⟨rfl, hT2⟩
        have hB2 : w.heap.size + 1 < w2.heap.size := by have h1 := hT2.size; have h2 := (Array.getElem?_eq_some_iff.1 HA.out.res).1; omega
        have hB3 : w.heap.size < w2.heap.size := by omega
        have kb := hT2.keep HA.out.box (by simp)
        have kr := hT2.keep HA.out.res (by simp)
        obtain ⟨x0, x1, x2, y0, y1, y2⟩ := rcells_of kb
        have HT2 := Lib.hid (HA.out.turn.trans hT2 (by simp))
        have KB := Lib.hid kb
        have KR := Lib.hid kr
        clear hT2 kb kr
        have hown2 : (w2.alloc (.cells #[] 3)).ownsRow 0 3 1 (.slice (some ⟨w2.heap.size, 0, none⟩) 0 0) 0 [] := World.ownsRow_made w2 #[] 0 (Nat.zero_le _) (by simp [maxLen]) (by simp)
        have hL2 : LAt (w2.alloc (.cells #[] 3)) (.slice ao l.length c) l := (H.out.turn HT2.out (by simp)).turn ((Frm.Turn.refl [] _).alloc _) (by simp)
        have HO2 := Lib.hid hown2
        have HL2 := Lib.hid hL2
        clear hown2 hL2
        by_cases hh : high < n
        · have hh' : decide (high < n) = true := by simpa using hh
          go_wp2_with (first
            | (at_builtin; refine Frm.wpList_append_rows _ rfl (.tmp 15) (.tmp 17) 35 rfl 0 3 i0 (.int .i64 0) 1 8 under_ints hi hz0 hz1 hz2 rfl (by decide) _ 0 [] rfl HO2.out _ rfl l.length 0 (ints l) HL2.out (ints_one l) (by unfold maxLen; omega) (by omega) (Nat.zero_le _) ?_; intro v1 w3 hown3 hg3 hl3; simp only [Nat.zero_add, List.nil_append] at hown3; have HO3 := Lib.hid hown3; have HG3 := Lib.hid hg3; have HL3 := Lib.hid hl3; clear hown3 hg3 hl3)
            | (at_builtin; refine wpList_append_own_at _ rfl (.tmp 18) (.tmp 20) 35 rfl 0 3 i0 (.int .i64 0) 1 8 under_ints hi hz0 hz1 hz2 rfl (by decide) v1 l.length (ints l) rfl (HO3.out.alloc _) ⟨w3.heap.size, 0, none⟩ 1 1 [.int .i64 (n : Int)] rfl rfl (cell_one_new _ _ _) (ints_oneCell .i64 [(n : Int)]) (by unfold maxLen; omega) (by omega) (Nat.zero_le _) ?_; intro v2 w5 hown5 hg5 _ hl5; obtain ⟨ao5, c5, rfl⟩ := Frm.row_form hown5; have hk5 := rtake_keeps HG3.out hg5 HL3.out hB3 KB.out; have hr5 := rtake_keeps HG3.out hg5 HL3.out hB2 KR.out; obtain ⟨x0', x1', x2', y0', y1', y2'⟩ := rcells_of hk5; obtain ⟨p0', p1', p2', q0', q1', q2'⟩ := rcells_of hr5; have HO5 := Lib.hid hown5; have HG5 := Lib.hid hg5; have HL5 := Lib.hid hl5; clear hown5 hg5 hl5 hk5 hr5))
          refine bodyPost_ret (v := .tuple #[.agg #[.int .i64 (most : Int), .int .i64 (n : Int), .slice ao5 (l.length + 1) c5], .int .i64 (n : Int)]) ?_ rfl ?_
          · simp [results, Try.results14, go_sem, p0', p1', p2', q0', q1', q2']
          · exact rtake_done (high' := n) HT2.out HG3.out HG5.out HL3.out HL5.out HO5.out hB3 rfl (by omega) hn1 hlt HM.out HALL.out ((((((Frm.Turn.refl _ _).setCell (Or.inl (by simp)) _).setCell (Or.inl (by simp)) _).setCell (Or.inl (by simp)) _).setCell (Or.inl (by simp)) _).setCell (Or.inl (by simp)) _) _ hB2
        · have hh' : decide (high < n) = false := by simpa using hh
          go_wp2_with (first
            | (at_builtin; refine Frm.wpList_append_rows _ rfl (.tmp 15) (.tmp 17) 35 rfl 0 3 i0 (.int .i64 0) 1 8 under_ints hi hz0 hz1 hz2 rfl (by decide) _ 0 [] rfl HO2.out _ rfl l.length 0 (ints l) HL2.out (ints_one l) (by unfold maxLen; omega) (by omega) (Nat.zero_le _) ?_; intro v1 w3 hown3 hg3 hl3; simp only [Nat.zero_add, List.nil_append] at hown3; have HO3 := Lib.hid hown3; have HG3 := Lib.hid hg3; have HL3 := Lib.hid hl3; clear hown3 hg3 hl3)
            | (at_builtin; refine wpList_append_own_at _ rfl (.tmp 18) (.tmp 20) 35 rfl 0 3 i0 (.int .i64 0) 1 8 under_ints hi hz0 hz1 hz2 rfl (by decide) v1 l.length (ints l) rfl (HO3.out.alloc _) ⟨w3.heap.size, 0, none⟩ 1 1 [.int .i64 (n : Int)] rfl rfl (cell_one_new _ _ _) (ints_oneCell .i64 [(n : Int)]) (by unfold maxLen; omega) (by omega) (Nat.zero_le _) ?_; intro v2 w5 hown5 hg5 _ hl5; obtain ⟨ao5, c5, rfl⟩ := Frm.row_form hown5; have hk5 := rtake_keeps HG3.out hg5 HL3.out hB3 KB.out; have hr5 := rtake_keeps HG3.out hg5 HL3.out hB2 KR.out; obtain ⟨x0', x1', x2', y0', y1', y2'⟩ := rcells_of hk5; obtain ⟨p0', p1', p2', q0', q1', q2'⟩ := rcells_of hr5; have HO5 := Lib.hid hown5; have HG5 := Lib.hid hg5; have HL5 := Lib.hid hl5; clear hown5 hg5 hl5 hk5 hr5))
          refine bodyPost_ret (v := .tuple #[.agg #[.int .i64 (most : Int), .int .i64 (high : Int), .slice ao5 (l.length + 1) c5], .int .i64 (n : Int)]) ?_ rfl ?_
          · simp [results, Try.results14, go_sem, p0', p1', p2', q0', q1', q2']
          · exact rtake_done (high' := high) HT2.out HG3.out HG5.out HL3.out HL5.out HO5.out hB3 rfl (by omega) hn1 hlt HM.out HALL.out (((((Frm.Turn.refl _ _).setCell (Or.inl (by simp)) _).setCell (Or.inl (by simp)) _).setCell (Or.inl (by simp)) _).setCell (Or.inl (by simp)) _) _ hB2
    · go_wp2
      refine bodyPost_ret (v := .tuple #[.agg #[.int .i64 (most : Int), .int .i64 (high : Int), .slice ao l.length c], .int .i64 0]) ?_ rfl ?_
      · simp [results, Try.results14, go_sem, r0, r1, r2, s0, s1, s2]
      · refine Or.inr ⟨rfl, fun k k1 k2 => HALL.out k k1 (by omega), ?_⟩
        exact (((HA.out.turn).setCell (Or.inr (by simp)) _).setCell (Or.inr (by simp)) _).setCell (Or.inr (by simp)) _
end Lst
end Go.Proofs.Ytnifdbmhpkkgfaa
