/- The document's Lay, in one form. -/
/- The document's At: a block's place. -/
/- The document's Free. -/
import Derived.Test.YtfbnidjcimcfoaaArenaRefLay2
set_option linter.unusedVariables false
set_option linter.unusedSimpArgs false
namespace Go.Proofs.Ytfbnidjcimcfoaa
namespace Arn
open Go.RowKit Hp Go.Maps

def refFoot (v : Value) (l : List RB) : List Nat := v.ownBlock.toList ++ l.flatMap fun x => x.2.ownBlock.toList
theorem mem_refFoot {v : Value} {l : List RB} {k : Nat} : k ∈ refFoot v l ↔ v.ownBlock = some k ∨ ∃ x, x ∈ l ∧ x.2.ownBlock = some k := by simp [refFoot]
/-- An arena of the document's in memory, by value; G: where its list and its rows lie. -/
def RefAt (w : World) (A : Ar) (f0 f1 f2 f3 f4 f5 f6 f7 f8 : Int) (u : Value) (G : List Nat) : Prop :=
  ∃ v l, u = .agg (refCells A f0 f1 f2 f3 f4 f5 f6 f7 f8 v) ∧ l.map Prod.fst = A.L ∧ BlksAt w v l ∧ G = refFoot v l
theorem RefAt.turn {w w' : World} {A : Ar} {f0 f1 f2 f3 f4 f5 f6 f7 f8 : Int} {u : Value} {G F : List Nat} (h : RefAt w A f0 f1 f2 f3 f4 f5 f6 f7 f8 u G) (hT : Frm.Turn F w w') (hG : ∀ k, k ∈ G → k ∉ F) : RefAt w' A f0 f1 f2 f3 f4 f5 f6 f7 f8 u G := by
  obtain ⟨v, l, h1, h2, h3, rfl⟩ := h
  exact ⟨v, l, h1, h2, h3.turn hT (fun k hk => hG k (mem_refFoot.2 (.inl hk))) (fun x hx k hk => hG k (mem_refFoot.2 (.inr ⟨x, hx, hk⟩))), rfl⟩
theorem refLay_any (A : Ar) (f0 f1 f2 f3 f4 f5 f6 f7 f8 : Int) (u : Value) (G : List Nat) (w : World) (h : RefAt w A f0 f1 f2 f3 f4 f5 f6 f7 f8 u G) (hok : A.Ok) (hb : A.births ≤ 100000000) (hlays : A.t.lays ≤ 100000000) (x : Value) (ws : List Int) (hx : WordsAt w x ws) (hws : ws.length ≤ 9223372036854775807) :
    Calls Try.prog 29 #[u, x] w fun e w' => ∃ u' G', e = .returned (.tuple (#[u', .int .u64 (A.lay ws).2.1, .int .i64 (A.lay ws).2.2])) ∧ RefAt w' (A.lay ws).1 f0 f1 f2 f3 f4 f5 f6 f7 f8 u' G' ∧ Frm.Turn [] w w' ∧ ∀ k, k ∈ G' → k ∈ G ∨ (w.heap.size ≤ k ∧ k < w'.heap.size) := by
  obtain ⟨v, l, rfl, hAL, hB, rfl⟩ := h
  obtain ⟨va, vc, rfl⟩ := hB.form
  obtain ⟨a, c, rfl⟩ : ∃ a c, x = .slice a ws.length c := by
    rcases hx with ⟨e1, e2⟩ | ⟨a, c, e1, _⟩
    · exact ⟨none, 0, by rw [e1, e2]; rfl⟩
    · exact ⟨_, _, e1⟩
  have hlen : l.length ≤ 60000 := by
    have u1 := length_le_used (fun x hx => (hok.len x hx).1)
    have u2 := hok.top
    have u3 := hok.peak
    have u4 := hok.cap
    rw [← hAL, List.length_map] at u1
    rw [← hAL] at u2
    omega
  have hu : used (l.map Prod.fst) ≤ 60000 := by
    have u2 := hok.top
    have u3 := hok.peak
    have u4 := hok.cap
    rw [hAL]; omega
  have hlow : ∀ y, y ∈ l → y.1.ws.length ≤ 70000 := fun y hy => by
    have := (hok.len y.1 (by rw [← hAL]; exact List.mem_map_of_mem hy)).2
    omega
  by_cases h1 : ws.length < 1 ∨ 2048 < ws.length
  · refine (refLay_arg (refCells A f0 f1 f2 f3 f4 f5 f6 f7 f8 (.slice va l.length vc)) rfl (refCells_one _ _ _ _ _ _ _ _ _ _ _ _ _) w a ws.length c h1 hws).mono ?_
    rintro e w' ⟨rfl, hT⟩
    have e1 : A.lay ws = (A, 0, 2) := by unfold Ar.lay; rw [if_pos h1]
    rw [e1]
    exact ⟨_, _, rfl, ⟨_, l, rfl, hAL, hB.step hT, rfl⟩, hT, fun k hk => .inl hk⟩
  · by_cases h2 : A.cap < used A.L + ws.length
    · refine (refLay_room A f0 f1 f2 f3 f4 f5 f6 f7 f8 (.slice va l.length vc) l w hB (by omega) (by omega) hlow a ws.length c (by omega) (by omega) (by have := hok.cap; omega) (by rw [hAL]; exact h2)).mono ?_
      rintro e w' ⟨rfl, hT⟩
      have e1 : A.lay ws = (A, 0, 20) := by unfold Ar.lay; rw [if_neg h1, if_pos h2]
      rw [e1]
      exact ⟨_, _, rfl, ⟨_, l, rfl, hAL, hB.step hT, rfl⟩, hT, fun k hk => .inl hk⟩
    · obtain ⟨wa, rfl, hcell⟩ : ∃ wa, a = some wa ∧ ∀ j u, (u64s ws)[j]? = some u → w.cell? (wa.add j) = some u := by
        rcases hx with ⟨_, e2⟩ | ⟨a, c, e1, hc⟩
        · rw [e2] at h1; simp at h1
        · simp only [Value.slice.injEq] at e1
          exact ⟨a, e1.1, hc⟩
      refine (refLay_yes A f0 f1 f2 f3 f4 f5 f6 f7 f8 (.slice va l.length vc) l w hB (by omega) (by omega) hlow hAL hok hb hlays wa ws c hcell (by omega) (by omega) (by omega)).mono ?_
      rintro e w' ⟨v', l', rfl, h3, h4, hT, h5, h6⟩
      have e2 : (A.lay ws).2 = (layH A, 0) := by rw [lay_eq (by omega) (by omega) (by omega)]
      rw [e2]
      refine ⟨_, _, rfl, ⟨v', l', rfl, h3, h4, rfl⟩, hT, fun k hk => ?_⟩
      rcases mem_refFoot.1 hk with hk | ⟨y, hy, hk⟩
      · exact .inr (h5 k hk)
      · rcases h6 y hy with h7 | h7
        · exact .inl (mem_refFoot.2 (.inr ⟨y, h7, hk⟩))
        · exact .inr (h7 k hk)
end Arn
end Go.Proofs.Ytfbnidjcimcfoaa

set_option linter.unusedVariables false
set_option linter.unusedSimpArgs false
namespace Go.Proofs.Ytfbnidjcimcfoaa
namespace Arn
open Go.RowKit Hp Go.Maps

/-- What At tells: a place where the handle is, or -1. -/
def AtTold (l : List RB) (k : Int) (e : Ending) : Prop :=
  ((∀ y, y ∈ l → y.1.h ≠ k) ∧ e = .returned (.int .i64 (-1))) ∨ ∃ (j : Nat) (y : RB), l[j]? = some y ∧ y.1.h = k ∧ e = .returned (.int .i64 (j : Int))
theorem not_take {l : List RB} {k : Int} {j : Nat} {y : RB} (h : ∀ y, y ∈ l.take j → y.1.h ≠ k) (hy : l[j]? = some y) (hk : y.1.h ≠ k) : ∀ y, y ∈ l.take (j + 1) → y.1.h ≠ k := by
  intro z hz
  rw [List.take_add_one, hy] at hz
  simp at hz
  rcases hz with hz | rfl
  · exact h z hz
  · exact hk
set_option maxRecDepth 100000 in
set_option maxHeartbeats 2000000 in
theorem refAt_any (A : Ar) (f0 f1 f2 f3 f4 f5 f6 f7 f8 : Int) (v : Value) (l : List RB) (w : World) (h : BlksAt w v l) (hl : l.length ≤ 70000) (k : Int) :
    Calls Try.prog 60 #[.agg (refCells A f0 f1 f2 f3 f4 f5 f6 f7 f8 v), .int .u64 k] w fun e w' => AtTold l k e ∧ Frm.Turn [] w w' := by
  obtain ⟨a, c, rfl⟩ := h.form
  have H := Lib.hid h
  obtain ⟨n, HN⟩ : ∃ n, Hid (n = l.length) := ⟨_, Lib.hid rfl⟩
  rw [← HN.out] at hl ⊢
  clear h
  unfold refCells
  go_enter Try.func60, Try.ntmps60
  go_wp2_with fail
  have hT0 : Frm.Turn [] w (w.alloc (.cells (refCells A f0 f1 f2 f3 f4 f5 f6 f7 f8 (.slice a n c)) 32)) := (Frm.Turn.refl [] w).alloc _
  unfold refCells at hT0
  generalize w.alloc (.cells _ 32) = wq at hT0 ⊢
  have HT0 := Lib.hid hT0
  clear hT0
  go_loopw [10] (fun i wr => ∃ j : Nat, j ≤ n ∧ i = .int .i64 j ∧ (∀ y, y ∈ l.take j → y.1.h ≠ k) ∧ Frm.Turn [] w wr) (fun i _ => n - (intOf i).toNat)
  case atStart => exact ⟨0, Nat.zero_le _, rfl, by simp, HT0.out⟩
  case round =>
    obtain ⟨j, hj, rfl, hno, hT⟩ := hrel
    have HNO := Lib.hid hno
    clear hno
    by_cases hlt : j < n
    · obtain ⟨y, hy⟩ : ∃ y, l[j]? = some y := ⟨_, List.getElem?_eq_getElem (by rw [← HN.out]; exact hlt)⟩
      obtain ⟨g, rfl, hcell⟩ : ∃ g, a = some ⟨g, 0, none⟩ ∧ ∀ j u, (rbCells l)[j]? = some u → w.cell? ⟨g, j, none⟩ = some u := by
        rcases H.out.head with ⟨_, e2⟩ | ⟨g, c', e1, _, _, hc⟩
        · rw [e2] at hy; simp at hy
        · simp only [Value.slice.injEq] at e1
          exact ⟨g, e1.1, hc⟩
      obtain ⟨r1, r2⟩ := rbCells_get l j y hy
      have hcA := hT.cell (hcell _ _ r1) (by simp)
      have hcB := hT.cell (hcell _ _ r2) (by simp)
      obtain ⟨ya, yc, hyf⟩ : ∃ ya yc, y.2 = .slice ya y.1.ws.length yc := by
        rcases H.out.rows y (List.mem_of_getElem? hy) with ⟨e1, e2⟩ | ⟨a, c, e1, _⟩
        · exact ⟨none, 0, by rw [e1, e2]; rfl⟩
        · exact ⟨_, _, e1⟩
      rw [hyf] at hcB
      have HT := Lib.hid hT
      have HY := Lib.hid hy
      clear hT hy hcell r1 r2 hyf
      by_cases hk : y.1.h = k
      · have hek : (y.1.h == k) = true := by simpa using hk
        have HK := Lib.hid hk
        clear hk
        go_wp2_with fail
        go_ret
        exact ⟨.inr ⟨j, y, HY.out, HK.out, rfl⟩, HT.out.alloc _⟩
      · have hek : (y.1.h == k) = false := by simpa using hk
        have HK := Lib.hid hk
        clear hk
        go_wp2_with fail
        go_roundw
        case rel => exact ⟨j + 1, by omega, by simp, not_take HNO.out HY.out HK.out, HT.out.alloc _⟩
        case measure => simp [intOf]; omega
    · obtain rfl : j = n := by omega
      have HT := Lib.hid hT
      have e1 : l.take j = l := by rw [HN.out, List.take_length]
      have HNN : Hid (∀ y, y ∈ l → y.1.h ≠ k) := Lib.hid (by have := HNO.out; rwa [e1] at this)
      clear hT e1
      go_wp2_with fail
      go_ret
      exact ⟨.inl ⟨HNN.out, rfl⟩, HT.out⟩
end Arn
end Go.Proofs.Ytfbnidjcimcfoaa

set_option linter.unusedVariables false
set_option linter.unusedSimpArgs false
namespace Go.Proofs.Ytfbnidjcimcfoaa
namespace Arn
open Go.RowKit Hp Go.Maps

theorem BlksAt.cuts {w : World} {v : Value} {l : List RB} (h : BlksAt w v l) : ∃ (g : Option Nat) (vc : Nat), v = .slice (g.map fun k => ⟨k, 0, none⟩) l.length vc ∧ l.length ≤ vc ∧ vc ≤ maxLen ∧
    ∀ d, d ≤ l.length → ∀ w', Frm.Turn [] w w' → SrcAt w' (.slice (g.map fun k => ⟨k, 0, none⟩) d vc) d 2 (rbCells (l.take d)) ∧ SrcAt w' (.slice (g.map fun k => ⟨k, if vc = d then 0 else d * 2, none⟩) (l.length - d) (vc - d)) (l.length - d) 2 (rbCells (l.drop d)) := by
  rcases h.head with ⟨rfl, rfl⟩ | ⟨g, c, rfl, hc, hm, hcell⟩
  · refine ⟨none, 0, rfl, by simp, by simp, fun d hd w' hT => ?_⟩
    simp at hd; subst hd
    exact ⟨.inl ⟨rfl, rfl, rfl⟩, .inl ⟨rfl, rfl, rfl⟩⟩
  · refine ⟨some g, c, rfl, hc, hm, fun d hd w' hT => ⟨.inr ⟨⟨g, 0, none⟩, c, rfl, by rw [rbCells_length, List.length_take, Nat.min_eq_left hd], fun j u hu => ?_⟩, .inr ⟨_, c - d, rfl, by rw [rbCells_length, List.length_drop], fun j u hu => ?_⟩⟩⟩
    · rw [rbCells_take] at hu
      rw [add_off, Nat.zero_add]
      refine hT.cell (hcell j u ?_) (by simp)
      rw [List.getElem?_take] at hu
      split at hu
      · exact hu
      · cases hu
    · have hlen : d < l.length := by
        have := (List.getElem?_eq_some_iff.1 hu).1
        rw [rbCells_length, List.length_drop] at this
        omega
      rw [rbCells_drop, List.getElem?_drop] at hu
      rw [add_off, if_neg (by omega)]
      exact hT.cell (hcell _ u hu) (by simp)
theorem BlksAt.of_row {w6 W : World} {v4 : Value} {l' : List RB} {F : List Nat} (hr : ∀ y, y ∈ l' → WordsAt W y.2 y.1.ws) (ho : w6.ownsRow 0 99 2 v4 l'.length (rbCells l')) (h6 : Frm.Turn F w6 W) (h4 : ∀ k, v4.ownBlock = some k → k ∉ F) : BlksAt W v4 l' := by
  have ho' := rowT ho h6 h4
  refine ⟨?_, hr⟩
  rcases ho'.2 with ⟨h1, h0⟩ | ⟨g, cap, cur, rfl, hb, hg, hnc, hcm, _⟩
  · exact .inl ⟨by rw [h1], List.length_eq_zero_iff.1 h0⟩
  · refine .inr ⟨g, cap, rfl, hnc, hcm, fun j u hu => ?_⟩
    have := World.ownsRow.cells ho' rfl j u hu
    rwa [add_off, Nat.zero_add] at this
theorem refAt_no (A : Ar) (f0 f1 f2 f3 f4 f5 f6 f7 f8 : Int) (v : Value) (l : List RB) (w : World) (h : BlksAt w v l) (hl : l.length ≤ 70000) (k : Int) (hk : ∀ y, y ∈ l → y.1.h ≠ k) :
    Calls Try.prog 60 #[.agg (refCells A f0 f1 f2 f3 f4 f5 f6 f7 f8 v), .int .u64 k] w fun e w' => e = .returned (.int .i64 (-1)) ∧ Frm.Turn [] w w' := by
  refine (refAt_any A f0 f1 f2 f3 f4 f5 f6 f7 f8 v l w h hl k).mono ?_
  rintro e w' ⟨he, hT⟩
  rcases he with ⟨_, he⟩ | ⟨j, y, hy, hyk, _⟩
  · exact ⟨he, hT⟩
  · exact absurd hyk (hk y (List.mem_of_getElem? hy))
theorem refAt_yes (A : Ar) (f0 f1 f2 f3 f4 f5 f6 f7 f8 : Int) (v : Value) (l : List RB) (w : World) (h : BlksAt w v l) (hl : l.length ≤ 70000) (k : Int) (j : Nat) (y : RB) (hy : l[j]? = some y) (hyk : y.1.h = k) (hu : ∀ i z, l[i]? = some z → z.1.h = k → i = j) :
    Calls Try.prog 60 #[.agg (refCells A f0 f1 f2 f3 f4 f5 f6 f7 f8 v), .int .u64 k] w fun e w' => e = .returned (.int .i64 (j : Int)) ∧ Frm.Turn [] w w' := by
  refine (refAt_any A f0 f1 f2 f3 f4 f5 f6 f7 f8 v l w h hl k).mono ?_
  rintro e w' ⟨he, hT⟩
  rcases he with ⟨hn, _⟩ | ⟨i, z, hz, hzk, he⟩
  · exact absurd hyk (hn y (List.mem_of_getElem? hy))
  · rw [hu i z hz hzk] at he
    exact ⟨he, hT⟩
/-- The place of a handle in a list of blocks that is an arena's. -/
theorem place_of {A : Ar} (hok : A.Ok) {l : List RB} (hAL : l.map Prod.fst = A.L) (k : Int) : (hasH A.L k = false ∧ ∀ y, y ∈ l → y.1.h ≠ k) ∨ (hasH A.L k = true ∧ ∃ (j : Nat) (y : RB), l[j]? = some y ∧ y.1.h = k ∧ (∀ (i : Nat) (z : RB), l[i]? = some z → z.1.h = k → i = j) ∧ A.L[j]? = some y.1) := by
  cases hh : hasH A.L k with
  | false =>
    refine .inl ⟨rfl, fun y hy => hasH_false.1 hh y.1 ?_⟩
    rw [← hAL]; exact List.mem_map_of_mem hy
  | true =>
    obtain ⟨x, hx, hxk⟩ := hasH_iff.1 hh
    rw [← hAL] at hx
    obtain ⟨y, hy, rfl⟩ := List.mem_map.1 hx
    obtain ⟨j, hj⟩ := List.getElem?_of_mem hy
    have hat : ∀ (i : Nat) (z : RB), l[i]? = some z → A.L[i]? = some z.1 := fun i z hz => by rw [← hAL, List.getElem?_map, hz]; rfl
    refine .inr ⟨rfl, j, y, hj, hxk, fun i z hz hzk => ?_, hat j y hj⟩
    have a1 := hat i z hz
    have a2 := hat j y hj
    have e : z.1 = y.1 := hok.h_inj (List.mem_of_getElem? a1) (List.mem_of_getElem? a2) (hzk.trans hxk.symm)
    rcases Nat.lt_trichotomy i j with e1 | e1 | e1
    · have := rise_get hok.rise a1 a2 e1; rw [e] at this; omega
    · exact e1
    · have := rise_get hok.rise a2 a1 e1; rw [e] at this; omega
theorem drop_at {A : Ar} (hok : A.Ok) {j : Nat} {x : Blk} (hx : A.L[j]? = some x) : drop A.L x.h = A.L.eraseIdx j := by
  refine filter_erase _ _ fun i y hy => ?_
  simp
  constructor
  · intro hn e; subst e; rw [hx] at hy; cases hy; exact hn rfl
  · intro hn e
    have : y = x := hok.h_inj (List.mem_of_getElem? hy) (List.mem_of_getElem? hx) e
    subst this
    rcases Nat.lt_trichotomy i j with e1 | e1 | e1
    · have := rise_get hok.rise hy hx e1; omega
    · exact hn e1
    · have := rise_get hok.rise hx hy e1; omega
theorem miss_cells (A : Ar) (f0 f1 f2 f3 f4 f5 f6 f7 f8 : Int) (v : Value) : (refCells A f0 f1 f2 f3 f4 f5 f6 f7 f8 v).setIfInBounds 3 (.int .i64 ((A.faults : Int) + 1)) = refCells A.miss f0 f1 f2 f3 f4 f5 f6 f7 f8 v := by
  simp [refCells, Ar.miss]
/-- An arena that has lost a block. -/
def Ar.less (A : Ar) (k : Int) : Ar := { A with L := drop A.L k, t := { A.t with frees := A.t.frees + 1 } }
theorem less_cells (A : Ar) (k : Int) (f0 f1 f2 f3 f4 f5 f6 f7 f8 : Int) (v v' : Value) : ((refCells A f0 f1 f2 f3 f4 f5 f6 f7 f8 v).setIfInBounds 13 v').setIfInBounds 15 (.int .i64 ((A.t.frees : Int) + 1)) = refCells (A.less k) f0 f1 f2 f3 f4 f5 f6 f7 f8 v' := by
  simp [refCells, Ar.less]
end Arn
end Go.Proofs.Ytfbnidjcimcfoaa
