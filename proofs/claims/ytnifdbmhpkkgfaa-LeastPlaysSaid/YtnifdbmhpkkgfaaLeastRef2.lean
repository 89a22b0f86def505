/- The document's own answer for stocks: Give. -/
import Derived.Test.YtnifdbmhpkkgfaaLeastRef
set_option linter.unusedVariables false
set_option linter.unusedSimpArgs false
namespace Go.Proofs.Ytnifdbmhpkkgfaa
namespace Lst
open Go.RowKit Hp

def strike (l : List Nat) (k : Int) : List Nat := l.filter fun x => decide ((x : Int) ≠ k)
theorem strike_snoc (l : List Nat) (k : Int) (j : Nat) (h : j < l.length) : strike (l.take (j + 1)) k = if (at_ l j : Int) = k then strike (l.take j) k else strike (l.take j) k ++ [at_ l j] := by
  unfold strike
  have e : at_ l j = l[j] := by simp [at_, List.getD_eq_getElem?_getD, h]
  rw [List.take_succ_eq_append_getElem h, List.filter_append, e]
  by_cases hk : (l[j] : Int) = k <;> simp [hk]
theorem strike_le (l : List Nat) (k : Int) : (strike l k).length ≤ l.length := List.length_filter_le _ _
theorem strike_lt (l : List Nat) (k : Int) : decide ((strike l k).length < l.length) = hasB l k := by
  rw [Bool.eq_iff_iff, decide_eq_true_eq, hasB_true]
  constructor
  · intro h
    apply Classical.byContradiction
    intro hc
    have : strike l k = l := by
      unfold strike
      rw [List.filter_eq_self]
      intro x hx
      obtain ⟨i, hi, e⟩ := mem_at hx
      simp
      intro e2
      exact hc ⟨i, hi, by omega⟩
    rw [this] at h; omega
  · rintro ⟨i, hi, e⟩
    rcases Nat.lt_or_ge (strike l k).length l.length with h | h
    · exact h
    · have h2 : (strike l k).length = l.length := Nat.le_antisymm (strike_le l k) h
      have h3 := (List.length_filter_eq_length_iff.1 h2) _ (at_mem hi)
      simp at h3
      exact absurd e h3

def RGiveEnd (most high : Nat) (l : List Nat) (k : Int) (w : World) (e : Ending) (w' : World) : Prop :=
  ∃ v' : Value, e = .returned (.tuple #[.agg #[.int .i64 (most : Int), .int .i64 (high : Int), v'], .bool (hasB l k)]) ∧ LAt w' v' (strike l k) ∧ (∀ j, v'.ownBlock = some j → w.heap.size ≤ j) ∧ Frm.Turn [] w w'

structure RGiveRel (w : World) (most high : Nat) (v : Value) (l : List Nat) (k : Int) (v6 i : Value) (wr : World) : Prop where
  idx : ∃ j : Nat, j ≤ l.length ∧ i = .int .i64 (j : Int) ∧ LAt wr v6 (strike (l.take j) k)
  own : ∀ j, v6.ownBlock = some j → w.heap.size + 2 ≤ j
  at_ : RTakeAt w wr most high v

set_option maxHeartbeats 2000000 in
theorem rgive_row {w : World} {g c : Nat} {l : List Nat} (h : LAt w (.slice (some ⟨g, 0, none⟩) l.length c) l) (hl : l.length ≤ 65535) (hc : ∀ i, i < l.length → w.cell? ⟨g, i, none⟩ = some (.int .i64 (at_ l i : Int))) (most high : Nat) (k : Int) :
    Calls Try.prog 15 #[.agg #[.int .i64 (most : Int), .int .i64 (high : Int), .slice (some ⟨g, 0, none⟩) l.length c], .int .i64 k] w (RGiveEnd most high l k w) := by
  have H := Lib.hid h
  have HC := Lib.hid hc
  clear h hc
  obtain ⟨i0, hi, hz0, hz1, hz2⟩ := info_parts info_intl
  have hgw := H.out.lt g rfl
  go_enter Try.func15, Try.ntmps15
  go_wp2
  go_loopw [6, 8, 13] (fun v6 _ i wr => RGiveRel w most high (.slice (some ⟨g, 0, none⟩) l.length c) l k v6 i wr) (fun _ _ i _ => l.length - (intOf i).toNat)
  case atStart =>
    have hz1 := heap_alloc_new w (.cells #[.int .i64 (most : Int), .int .i64 (high : Int), .slice (some ⟨g, 0, none⟩) l.length c] 37)
    refine ⟨⟨0, by omega, rfl, World.ownsRow_nil _ _ _ _⟩, by simp [Value.ownBlock], ?_, ?_, ((Frm.Turn.refl [] w).alloc _).alloc _⟩
    · rw [Below.heap_alloc _ _ _ (by simp)]; exact hz1
    · have := heap_alloc_new (w.alloc (.cells #[.int .i64 (most : Int), .int .i64 (high : Int), .slice (some ⟨g, 0, none⟩) l.length c] 37)) (.cells #[.int .i64 0, .int .i64 0, .slice none 0 0] 37)
      simpa using this
  case round =>
    obtain ⟨⟨j, hj, rfl, hL⟩, hown, hA⟩ := hrel
    obtain ⟨ao6, c6, rfl⟩ := Frm.row_form hL
    have hlen : (strike (l.take j) k).length ≤ j := Nat.le_trans (strike_le _ _) (by simp; omega)
    have hsz : w.heap.size + 1 < _ := (Array.getElem?_eq_some_iff.1 hA.res).1
    by_cases hlt : j < l.length
    · have hcell := hA.turn.cell (HC.out j hlt) (by simp)
      obtain ⟨x, hx⟩ : ∃ x : Int, x = (Hp.at_ l j : Int) := ⟨_, rfl⟩
      rw [← hx] at hcell
      have hs := strike_snoc l k j hlt
      rw [← hx] at hs
      obtain ⟨n6, hn6⟩ : ∃ n6, (strike (l.take j) k).length = n6 := ⟨_, rfl⟩
      rw [hn6] at hlen
      have HX := Lib.hid hx
      have HS := Lib.hid hs
      have HL : Hid (wr.ownsRow 0 3 1 (.slice ao6 n6 c6) n6 (ints (strike (l.take j) k))) := Lib.hid (by rw [← hn6]; exact hL)
      have HN := Lib.hid hn6
      have HA := Lib.hid hA
      have HW : Hid (∀ q, (Value.slice ao6 n6 c6).ownBlock = some q → w.heap.size + 2 ≤ q) := Lib.hid (by rw [← hn6]; exact hown)
      clear hx hs hL hA hown hn6
      simp only [HN.out]
      cases hev : (x != k) with
      | true =>
        go_wp2_with (at_builtin; refine wpList_append_own_at _ rfl (.tmp 20) (.tmp 22) 35 rfl 0 3 i0 (.int .i64 0) 1 8 under_ints hi hz0 hz1 hz2 rfl (by decide) (.slice ao6 n6 c6) n6 (ints (strike (l.take j) k)) rfl (HL.out.alloc _) ⟨wr.heap.size, 0, none⟩ 1 1 [.int .i64 x] rfl rfl (cell_one_new _ _ _) (ints_oneCell .i64 [x]) (by unfold maxLen; omega) (by omega) (Nat.zero_le _) ?_; intro v2 w5 hown5 hg5 _ hl5; have HO5 := Lib.hid hown5; have HG5 := Lib.hid hg5; have HL5 := Lib.hid hl5; clear hown5 hg5 hl5)
        go_roundw
        case rel =>
          have hs := HS.out
          have hx0 : x = ((Hp.at_ l j : Nat) : Int) := HX.out
          rw [if_neg (by simpa using hev)] at hs
          have hsz5 := HG5.out.size
          simp at hsz5
          have hT := HA.out.turn.size
          refine ⟨⟨j + 1, by omega, by go_num, ?_⟩, fun q hq => ?_, ?_, ?_, ?_⟩
          · unfold LAt
            have e : (strike (l.take (j + 1)) k).length = n6 + 1 := by rw [hs, List.length_append, HN.out]; rfl
            rw [e, hs]
            have e2 : ints (strike (l.take j) k ++ [Hp.at_ l j]) = ints (strike (l.take j) k) ++ [Value.int .i64 x] := by simp [ints]; omega
            rw [e2]
            exact HO5.out
          · rcases HL5.out with h | h
            · exact HW.out q (by rw [← h]; exact hq)
            · rw [h] at hq; simp at hq; omega
          · rw [HG5.out.block _ (by simp; omega) (by intro e; have := HW.out _ e.symm; omega), Below.heap_alloc _ _ _ (by omega)]
            exact HA.out.box
          · rw [HG5.out.block _ (by simp; omega) (by intro e; have := HW.out _ e.symm; omega), Below.heap_alloc _ _ _ (by omega)]
            exact HA.out.res
          · exact (HA.out.turn.alloc _).trans (Frm.Turn.of_grown HG5.out) (fun q hq => by right; have := HW.out q (by simpa using hq); omega)
        case measure => simp [intOf]; omega
      | false =>
        go_wp2
        go_roundw
        case rel =>
          have hs := HS.out
          rw [if_pos (by simpa using hev)] at hs
          refine ⟨⟨j + 1, by omega, by go_num, ?_⟩, HW.out, HA.out⟩
          unfold LAt
          rw [hs, HN.out]
          exact HL.out
        case measure => simp [intOf]; omega
    · obtain rfl : j = l.length := by omega
      rw [List.take_length] at *
      obtain ⟨b0, b1, b2, e0, e1, e2⟩ := rcells_of hA.box
      obtain ⟨r0, r1, r2, s0, s1, s2⟩ := rcells_of hA.res
      have hT := Lib.hid hA.turn
      have HL := Lib.hid hL
      have HW := Lib.hid hown
      have HS := Lib.hid (strike_lt l k)
      clear hA hL hown
      go_wp2
      refine bodyPost_ret (v := .tuple #[.agg #[.int .i64 (most : Int), .int .i64 (high : Int), .slice ao6 (strike l k).length c6], .bool (decide ((strike l k).length < l.length))]) ?_ rfl ?_
      · simp [results, Try.results15, go_sem, r0, r1, r2, s0, s1, s2]
      · rw [HS.out]
        have hT4 : Frm.Turn [w.heap.size, w.heap.size + 1] wr ((((wr.setCell ⟨w.heap.size, 2, none⟩ (.slice ao6 (strike l k).length c6)).setCell ⟨w.heap.size + 1, 0, none⟩ (.int .i64 (most : Int))).setCell ⟨w.heap.size + 1, 1, none⟩ (.int .i64 (high : Int))).setCell ⟨w.heap.size + 1, 2, none⟩ (.slice ao6 (strike l k).length c6)) :=
          ((((Frm.Turn.refl _ _).setCell (Or.inl (by simp)) _).setCell (Or.inl (by simp)) _).setCell (Or.inl (by simp)) _).setCell (Or.inl (by simp)) _
        refine ⟨_, rfl, HL.out.turn hT4 (fun q hq => by have := HW.out q hq; simp; omega), fun q hq => by have := HW.out q hq; omega, hT.out.trans hT4 (fun q hq => by simp at hq; right; omega)⟩

set_option maxHeartbeats 2000000 in
theorem rgive_nil (w : World) (most high : Nat) (k : Int) :
    Calls Try.prog 15 #[.agg #[.int .i64 (most : Int), .int .i64 (high : Int), .slice none 0 0], .int .i64 k] w (RGiveEnd most high [] k w) := by
  go_enter Try.func15, Try.ntmps15
  go_wp2
  refine wp_loop_rounds 1 ?_
  rw [rounds_succ]
  go_wp2
  refine bodyPost_ret (v := .tuple #[.agg #[.int .i64 (most : Int), .int .i64 (high : Int), .slice none 0 0], .bool false]) ?_ rfl ?_
  · simp [results, Try.results15, go_sem]
  · have hT := ((Frm.Turn.refl [] w).alloc (.cells #[.int .i64 (most : Int), .int .i64 (high : Int), .slice none 0 0] 37)).alloc (.cells #[.int .i64 (most : Int), .int .i64 (high : Int), .slice none 0 0] 37)
    exact ⟨_, by simp [hasB], World.ownsRow_nil _ _ _ _, by simp [Value.ownBlock], by simpa using hT⟩
theorem rgive_any {w : World} {v : Value} {l : List Nat} (h : LAt w v l) (hl : l.length ≤ 65535) (most high : Nat) (k : Int) :
    Calls Try.prog 15 #[.agg #[.int .i64 (most : Int), .int .i64 (high : Int), v], .int .i64 k] w (RGiveEnd most high l k w) := by
  rcases h.cases with ⟨rfl, rfl⟩ | ⟨g, c, rfl, hc⟩
  · exact rgive_nil w most high k
  · exact rgive_row h hl hc most high k
end Lst
end Go.Proofs.Ytnifdbmhpkkgfaa
