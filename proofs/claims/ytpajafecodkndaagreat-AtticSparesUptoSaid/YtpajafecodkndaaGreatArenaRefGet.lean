/- The document's Lay, in one form. -/
/- The document's At: a block's place. -/
/- The document's Free. -/
/- The document's Get: a word, or why not. -/
import Derived.Test.YtpajafecodkndaaGreatArenaRefLay2
set_option linter.unusedVariables false
set_option linter.unusedSimpArgs false
namespace Go.Proofs.YtpajafecodkndaaGreat
namespace Arn
open Go.RowKit Hp Go.Maps

def refFoot (v : Value) (l : List RB) : List Nat := v.ownBlock.toList ++ l.flatMap fun x => x.2.ownBlock.toList
theorem mem_refFoot {v : Value} {l : List RB} {k : Nat} : k ∈ refFoot v l ↔ v.ownBlock = some k ∨ ∃ x, x ∈ l ∧ x.2.ownBlock = some k := by simp [refFoot]
/-- An arena of the document's in memory, by value; G: where its list and its rows lie. -/
def RefAt (w : World) (A : Ar) (f0 f1 f2 f3 f4 f5 f6 f7 f8 : Int) (u : Value) (G : List Nat) : Prop :=
  ∃ v l, u = .agg (refCells A f0 f1 f2 f3 f4 f5 f6 f7 f8 v) ∧ l.map Prod.fst = A.L ∧ BlksAt w v l ∧ G = refFoot v l
theorem RefAt.turn {w w' : World} {A : Ar} {f0 f1 f2 f3 f4 f5 f6 f7 f8 : Int} {u : Value} {G F : List Nat} (h : RefAt w A f0 f1 f2 f3 f4 f5 f6 f7 f8 u G) (hT : Frm.Turn F w w') (hG : ∀ k, k ∈ G → k ∉ F) : RefAt w' A f0 f1 f2 f3 f4 f5 f6 f7 f8 u G := by
  obtain ⟨v, l, h1, h2, h3, rfl⟩ := h
  exact ⟨v, l, h1, h2, h3.turn hT (fun k hk => hG k (mem_refFoot.2 (.inl hk))) (fun x hx k hk => hG k (mem_refFoot.2 (.inr ⟨x, hx, hk⟩))), rfl⟩
theorem refLay_any (A : Ar) (f0 f1 f2 f3 f4 f5 f6 f7 f8 : Int) (u : Value) (G : List Nat) (w : World) (h : RefAt w A f0 f1 f2 f3 f4 f5 f6 f7 f8 u G) (hok : A.Ok) (hb : A.births ≤ 100000000) (hlays : A.t.lays ≤ 100000000) (x : Value) (ws : List Int) (hx : WordsAt w x ws) (hws : ws.length ≤ 9223372036854775807) :
    Calls Tryz.prog 11 #[u, x] w fun e w' => ∃ u' G', e = .returned (.tuple (#[u', .int .u64 (A.lay ws).2.1, .int .i64 (A.lay ws).2.2])) ∧ RefAt w' (A.lay ws).1 f0 f1 f2 f3 f4 f5 f6 f7 f8 u' G' ∧ Frm.Turn [] w w' ∧ ∀ k, k ∈ G' → k ∈ G ∨ (w.heap.size ≤ k ∧ k < w'.heap.size) := by
  obtain ⟨v, l, rfl, hAL, hB, rfl⟩ := h
  obtain ⟨va, vc, rfl⟩ := hB.form
  obtain ⟨a, c, rfl⟩ : ∃ a c, x = .slice a ws.length c := by
    rcases hx with ⟨e1, e2⟩ | ⟨a, c, e1, _⟩
    · exact ⟨none, 0, by rw [e1, e2]; rfl⟩
    · exact ⟨_, _, e1⟩
  have hlen : l.length ≤ 60000 := by
    have u1 := length_le_used (fun x hx => (hok.len x hx).1)
    have u2 := hok.top
    have u3 := hok.peak
    have u4 := hok.cap
    rw [← hAL, List.length_map] at u1
    rw [← hAL] at u2
    omega
  have hu : used (l.map Prod.fst) ≤ 60000 := by
    have u2 := hok.top
    have u3 := hok.peak
    have u4 := hok.cap
    rw [hAL]; omega
  have hlow : ∀ y, y ∈ l → y.1.ws.length ≤ 70000 := fun y hy => by
    have := (hok.len y.1 (by rw [← hAL]; exact List.mem_map_of_mem hy)).2
    omega
  by_cases h1 : ws.length < 1 ∨ 2048 < ws.length
  · refine (refLay_arg (refCells A f0 f1 f2 f3 f4 f5 f6 f7 f8 (.slice va l.length vc)) rfl (refCells_one _ _ _ _ _ _ _ _ _ _ _ _ _) w a ws.length c h1 hws).mono ?_
    rintro e w' ⟨rfl, hT⟩
    have e1 : A.lay ws = (A, 0, 2) := by unfold Ar.lay; rw [if_pos h1]
    rw [e1]
    exact ⟨_, _, rfl, ⟨_, l, rfl, hAL, hB.step hT, rfl⟩, hT, fun k hk => .inl hk⟩
  · by_cases h2 : A.cap < used A.L + ws.length
    · refine (refLay_room A f0 f1 f2 f3 f4 f5 f6 f7 f8 (.slice va l.length vc) l w hB (by omega) (by omega) hlow a ws.length c (by omega) (by omega) (by have := hok.cap; omega) (by rw [hAL]; exact h2)).mono ?_
      rintro e w' ⟨rfl, hT⟩
      have e1 : A.lay ws = (A, 0, 20) := by unfold Ar.lay; rw [if_neg h1, if_pos h2]
      rw [e1]
      exact ⟨_, _, rfl, ⟨_, l, rfl, hAL, hB.step hT, rfl⟩, hT, fun k hk => .inl hk⟩
    · obtain ⟨wa, rfl, hcell⟩ : ∃ wa, a = some wa ∧ ∀ j u, (u64s ws)[j]? = some u → w.cell? (wa.add j) = some u := by
        rcases hx with ⟨_, e2⟩ | ⟨a, c, e1, hc⟩
        · rw [e2] at h1; simp at h1
        · simp only [Value.slice.injEq] at e1
          exact ⟨a, e1.1, hc⟩
      refine (refLay_yes A f0 f1 f2 f3 f4 f5 f6 f7 f8 (.slice va l.length vc) l w hB (by omega) (by omega) hlow hAL hok hb hlays wa ws c hcell (by omega) (by omega) (by omega)).mono ?_
      rintro e w' ⟨v', l', rfl, h3, h4, hT, h5, h6⟩
      have e2 : (A.lay ws).2 = (layH A, 0) := by rw [lay_eq (by omega) (by omega) (by omega)]
      rw [e2]
      refine ⟨_, _, rfl, ⟨v', l', rfl, h3, h4, rfl⟩, hT, fun k hk => ?_⟩
      rcases mem_refFoot.1 hk with hk | ⟨y, hy, hk⟩
      · exact .inr (h5 k hk)
      · rcases h6 y hy with h7 | h7
        · exact .inl (mem_refFoot.2 (.inr ⟨y, h7, hk⟩))
        · exact .inr (h7 k hk)
end Arn
end Go.Proofs.YtpajafecodkndaaGreat

set_option linter.unusedVariables false
set_option linter.unusedSimpArgs false
namespace Go.Proofs.YtpajafecodkndaaGreat
namespace Arn
open Go.RowKit Hp Go.Maps

/-- What At tells: a place where the handle is, or -1. -/
def AtTold (l : List RB) (k : Int) (e : Ending) : Prop :=
  ((∀ y, y ∈ l → y.1.h ≠ k) ∧ e = .returned (.int .i64 (-1))) ∨ ∃ (j : Nat) (y : RB), l[j]? = some y ∧ y.1.h = k ∧ e = .returned (.int .i64 (j : Int))
theorem not_take {l : List RB} {k : Int} {j : Nat} {y : RB} (h : ∀ y, y ∈ l.take j → y.1.h ≠ k) (hy : l[j]? = some y) (hk : y.1.h ≠ k) : ∀ y, y ∈ l.take (j + 1) → y.1.h ≠ k := by
  intro z hz
  rw [List.take_add_one, hy] at hz
  simp at hz
  rcases hz with hz | rfl
  · exact h z hz
  · exact hk
set_option maxRecDepth 100000 in
set_option maxHeartbeats 2000000 in
theorem refAt_any (A : Ar) (f0 f1 f2 f3 f4 f5 f6 f7 f8 : Int) (v : Value) (l : List RB) (w : World) (h : BlksAt w v l) (hl : l.length ≤ 70000) (k : Int) :
    Calls Tryz.prog 114 #[.agg (refCells A f0 f1 f2 f3 f4 f5 f6 f7 f8 v), .int .u64 k] w fun e w' => AtTold l k e ∧ Frm.Turn [] w w' := by
  obtain ⟨a, c, rfl⟩ := h.form
  have H := Lib.hid h
  obtain ⟨n, HN⟩ : ∃ n, Hid (n = l.length) := ⟨_, Lib.hid rfl⟩
  rw [← HN.out] at hl ⊢
  clear h
  unfold refCells
  go_enter Tryz.func114, Tryz.ntmps114
  go_wp2_with fail
  have hT0 : Frm.Turn [] w (w.alloc (.cells (refCells A f0 f1 f2 f3 f4 f5 f6 f7 f8 (.slice a n c)) 37)) := (Frm.Turn.refl [] w).alloc _
  unfold refCells at hT0
  generalize w.alloc (.cells _ 37) = wq at hT0 ⊢
  have HT0 := Lib.hid hT0
  clear hT0
  go_loopw [10] (fun i wr => ∃ j : Nat, j ≤ n ∧ i = .int .i64 j ∧ (∀ y, y ∈ l.take j → y.1.h ≠ k) ∧ Frm.Turn [] w wr) (fun i _ => n - (intOf i).toNat)
  case atStart => exact ⟨0, Nat.zero_le _, rfl, by simp, HT0.out⟩
  case round =>
    obtain ⟨j, hj, rfl, hno, hT⟩ := hrel
    have HNO := Lib.hid hno
    clear hno
    by_cases hlt : j < n
    · obtain ⟨y, hy⟩ : ∃ y, l[j]? = some y := ⟨_, List.getElem?_eq_getElem (by rw [← HN.out]; exact hlt)⟩
      obtain ⟨g, rfl, hcell⟩ : ∃ g, a = some ⟨g, 0, none⟩ ∧ ∀ j u, (rbCells l)[j]? = some u → w.cell? ⟨g, j, none⟩ = some u := by
        rcases H.out.head with ⟨_, e2⟩ | ⟨g, c', e1, _, _, hc⟩
        · rw [e2] at hy; simp at hy
        · simp only [Value.slice.injEq] at e1
          exact ⟨g, e1.1, hc⟩
      obtain ⟨r1, r2⟩ := rbCells_get l j y hy
      have hcA := hT.cell (hcell _ _ r1) (by simp)
      have hcB := hT.cell (hcell _ _ r2) (by simp)
      obtain ⟨ya, yc, hyf⟩ : ∃ ya yc, y.2 = .slice ya y.1.ws.length yc := by
        rcases H.out.rows y (List.mem_of_getElem? hy) with ⟨e1, e2⟩ | ⟨a, c, e1, _⟩
        · exact ⟨none, 0, by rw [e1, e2]; rfl⟩
        · exact ⟨_, _, e1⟩
      rw [hyf] at hcB
      have HT := Lib.hid hT
      have HY := Lib.hid hy
      clear hT hy hcell r1 r2 hyf
      by_cases hk : y.1.h = k
      · have hek : (y.1.h == k) = true := by simpa using hk
        have HK := Lib.hid hk
        clear hk
        go_wp2_with fail
        go_ret
        exact ⟨.inr ⟨j, y, HY.out, HK.out, rfl⟩, HT.out.alloc _⟩
      · have hek : (y.1.h == k) = false := by simpa using hk
        have HK := Lib.hid hk
        clear hk
        go_wp2_with fail
        go_roundw
        case rel => exact ⟨j + 1, by omega, by simp, not_take HNO.out HY.out HK.out, HT.out.alloc _⟩
        case measure => simp [intOf]; omega
    · obtain rfl : j = n := by omega
      have HT := Lib.hid hT
      have e1 : l.take j = l := by rw [HN.out, List.take_length]
      have HNN : Hid (∀ y, y ∈ l → y.1.h ≠ k) := Lib.hid (by have := HNO.out; rwa [e1] at this)
      clear hT e1
      go_wp2_with fail
      go_ret
      exact ⟨.inl ⟨HNN.out, rfl⟩, HT.out⟩
end Arn
end Go.Proofs.YtpajafecodkndaaGreat

set_option linter.unusedVariables false
set_option linter.unusedSimpArgs false
namespace Go.Proofs.YtpajafecodkndaaGreat
namespace Arn
open Go.RowKit Hp Go.Maps

theorem BlksAt.cuts {w : World} {v : Value} {l : List RB} (h : BlksAt w v l) : ∃ (g : Option Nat) (vc : Nat), v = .slice (g.map fun k => ⟨k, 0, none⟩) l.length vc ∧ l.length ≤ vc ∧ vc ≤ maxLen ∧
    ∀ d, d ≤ l.length → ∀ w', Frm.Turn [] w w' → SrcAt w' (.slice (g.map fun k => ⟨k, 0, none⟩) d vc) d 2 (rbCells (l.take d)) ∧ SrcAt w' (.slice (g.map fun k => ⟨k, if vc = d then 0 else d * 2, none⟩) (l.length - d) (vc - d)) (l.length - d) 2 (rbCells (l.drop d)) := by
  rcases h.head with ⟨rfl, rfl⟩ | ⟨g, c, rfl, hc, hm, hcell⟩
  · refine ⟨none, 0, rfl, by simp, by simp, fun d hd w' hT => ?_⟩
    simp at hd; subst hd
    exact ⟨.inl ⟨rfl, rfl, rfl⟩, .inl ⟨rfl, rfl, rfl⟩⟩
  · refine ⟨some g, c, rfl, hc, hm, fun d hd w' hT => ⟨.inr ⟨⟨g, 0, none⟩, c, rfl, by rw [rbCells_length, List.length_take, Nat.min_eq_left hd], fun j u hu => ?_⟩, .inr ⟨_, c - d, rfl, by rw [rbCells_length, List.length_drop], fun j u hu => ?_⟩⟩⟩
    · rw [rbCells_take] at hu
      rw [add_off, Nat.zero_add]
      refine hT.cell (hcell j u ?_) (by simp)
      rw [List.getElem?_take] at hu
      split at hu
      · exact hu
      · cases hu
    · have hlen : d < l.length := by
        have := (List.getElem?_eq_some_iff.1 hu).1
        rw [rbCells_length, List.length_drop] at this
        omega
      rw [rbCells_drop, List.getElem?_drop] at hu
      rw [add_off, if_neg (by omega)]
      exact hT.cell (hcell _ u hu) (by simp)
theorem BlksAt.of_row {w6 W : World} {v4 : Value} {l' : List RB} {F : List Nat} (hr : ∀ y, y ∈ l' → WordsAt W y.2 y.1.ws) (ho : w6.ownsRow 0 135 2 v4 l'.length (rbCells l')) (h6 : Frm.Turn F w6 W) (h4 : ∀ k, v4.ownBlock = some k → k ∉ F) : BlksAt W v4 l' := by
  have ho' := rowT ho h6 h4
  refine ⟨?_, hr⟩
  rcases ho'.2 with ⟨h1, h0⟩ | ⟨g, cap, cur, rfl, hb, hg, hnc, hcm, _⟩
  · exact .inl ⟨by rw [h1], List.length_eq_zero_iff.1 h0⟩
  · refine .inr ⟨g, cap, rfl, hnc, hcm, fun j u hu => ?_⟩
    have := World.ownsRow.cells ho' rfl j u hu
    rwa [add_off, Nat.zero_add] at this
theorem refAt_no (A : Ar) (f0 f1 f2 f3 f4 f5 f6 f7 f8 : Int) (v : Value) (l : List RB) (w : World) (h : BlksAt w v l) (hl : l.length ≤ 70000) (k : Int) (hk : ∀ y, y ∈ l → y.1.h ≠ k) :
    Calls Tryz.prog 114 #[.agg (refCells A f0 f1 f2 f3 f4 f5 f6 f7 f8 v), .int .u64 k] w fun e w' => e = .returned (.int .i64 (-1)) ∧ Frm.Turn [] w w' := by
  refine (refAt_any A f0 f1 f2 f3 f4 f5 f6 f7 f8 v l w h hl k).mono ?_
  rintro e w' ⟨he, hT⟩
  rcases he with ⟨_, he⟩ | ⟨j, y, hy, hyk, _⟩
  · exact ⟨he, hT⟩
  · exact absurd hyk (hk y (List.mem_of_getElem? hy))
theorem refAt_yes (A : Ar) (f0 f1 f2 f3 f4 f5 f6 f7 f8 : Int) (v : Value) (l : List RB) (w : World) (h : BlksAt w v l) (hl : l.length ≤ 70000) (k : Int) (j : Nat) (y : RB) (hy : l[j]? = some y) (hyk : y.1.h = k) (hu : ∀ i z, l[i]? = some z → z.1.h = k → i = j) :
    Calls Tryz.prog 114 #[.agg (refCells A f0 f1 f2 f3 f4 f5 f6 f7 f8 v), .int .u64 k] w fun e w' => e = .returned (.int .i64 (j : Int)) ∧ Frm.Turn [] w w' := by
  refine (refAt_any A f0 f1 f2 f3 f4 f5 f6 f7 f8 v l w h hl k).mono ?_
  rintro e w' ⟨he, hT⟩
  rcases he with ⟨hn, _⟩ | ⟨i, z, hz, hzk, he⟩
  · exact absurd hyk (hn y (List.mem_of_getElem? hy))
  · rw [hu i z hz hzk] at he
    exact ⟨he, hT⟩
/-- The place of a handle in a list of blocks that is an arena's. -/
theorem place_of {A : Ar} (hok : A.Ok) {l : List RB} (hAL : l.map Prod.fst = A.L) (k : Int) : (hasH A.L k = false ∧ ∀ y, y ∈ l → y.1.h ≠ k) ∨ (hasH A.L k = true ∧ ∃ (j : Nat) (y : RB), l[j]? = some y ∧ y.1.h = k ∧ (∀ (i : Nat) (z : RB), l[i]? = some z → z.1.h = k → i = j) ∧ A.L[j]? = some y.1) := by
  cases hh : hasH A.L k with
  | false =>
    refine .inl ⟨rfl, fun y hy => hasH_false.1 hh y.1 ?_⟩
    rw [← hAL]; exact List.mem_map_of_mem hy
  | true =>
    obtain ⟨x, hx, hxk⟩ := hasH_iff.1 hh
    rw [← hAL] at hx
    obtain ⟨y, hy, rfl⟩ := List.mem_map.1 hx
    obtain ⟨j, hj⟩ := List.getElem?_of_mem hy
    have hat : ∀ (i : Nat) (z : RB), l[i]? = some z → A.L[i]? = some z.1 := fun i z hz => by rw [← hAL, List.getElem?_map, hz]; rfl
    refine .inr ⟨rfl, j, y, hj, hxk, fun i z hz hzk => ?_, hat j y hj⟩
    have a1 := hat i z hz
    have a2 := hat j y hj
    have e : z.1 = y.1 := hok.h_inj (List.mem_of_getElem? a1) (List.mem_of_getElem? a2) (hzk.trans hxk.symm)
    rcases Nat.lt_trichotomy i j with e1 | e1 | e1
    · have := rise_get hok.rise a1 a2 e1; rw [e] at this; omega
    · exact e1
    · have := rise_get hok.rise a2 a1 e1; rw [e] at this; omega
theorem drop_at {A : Ar} (hok : A.Ok) {j : Nat} {x : Blk} (hx : A.L[j]? = some x) : drop A.L x.h = A.L.eraseIdx j := by
  refine filter_erase _ _ fun i y hy => ?_
  simp
  constructor
  · intro hn e; subst e; rw [hx] at hy; cases hy; exact hn rfl
  · intro hn e
    have : y = x := hok.h_inj (List.mem_of_getElem? hy) (List.mem_of_getElem? hx) e
    subst this
    rcases Nat.lt_trichotomy i j with e1 | e1 | e1
    · have := rise_get hok.rise hy hx e1; omega
    · exact hn e1
    · have := rise_get hok.rise hx hy e1; omega
theorem miss_cells (A : Ar) (f0 f1 f2 f3 f4 f5 f6 f7 f8 : Int) (v : Value) : (refCells A f0 f1 f2 f3 f4 f5 f6 f7 f8 v).setIfInBounds 3 (.int .i64 ((A.faults : Int) + 1)) = refCells A.miss f0 f1 f2 f3 f4 f5 f6 f7 f8 v := by
  simp [refCells, Ar.miss]
/-- An arena that has lost a block. -/
def Ar.less (A : Ar) (k : Int) : Ar := { A with L := drop A.L k, t := { A.t with frees := A.t.frees + 1 } }
theorem less_cells (A : Ar) (k : Int) (f0 f1 f2 f3 f4 f5 f6 f7 f8 : Int) (v v' : Value) : ((refCells A f0 f1 f2 f3 f4 f5 f6 f7 f8 v).setIfInBounds 13 v').setIfInBounds 15 (.int .i64 ((A.t.frees : Int) + 1)) = refCells (A.less k) f0 f1 f2 f3 f4 f5 f6 f7 f8 v' := by
  simp [refCells, Ar.less]
set_option maxRecDepth 100000 in
set_option maxHeartbeats 4000000 in
theorem refFree_gone (A : Ar) (f0 f1 f2 f3 f4 f5 f6 f7 f8 : Int) (v : Value) (l : List RB) (w : World) (h : BlksAt w v l) (hl : l.length ≤ 70000) (hf : A.faults ≤ 100000000) (k : Int) (hk : ∀ y, y ∈ l → y.1.h ≠ k) :
    Calls Tryz.prog 131 #[.agg (refCells A f0 f1 f2 f3 f4 f5 f6 f7 f8 v), .int .u64 k] w fun e w' => e = .returned (.tuple #[.agg (refCells A.miss f0 f1 f2 f3 f4 f5 f6 f7 f8 v), .int .i64 23]) ∧ Frm.Turn [] w w' := by
  obtain ⟨va, vc, rfl⟩ := h.form
  obtain ⟨fs, hfs⟩ := struct_of under_refA
  have HAT := Lib.hid (fun W (hT : Frm.Turn [] w W) => refAt_no A f0 f1 f2 f3 f4 f5 f6 f7 f8 _ l W (h.step hT) hl k hk)
  obtain ⟨q, HQ⟩ : ∃ q, Hid (q = l.length) := ⟨_, Lib.hid rfl⟩
  rw [← HQ.out] at HAT ⊢
  obtain ⟨CS, HCS⟩ : ∃ CS, Hid (CS = refCells A f0 f1 f2 f3 f4 f5 f6 f7 f8 (.slice va q vc)) := ⟨_, Lib.hid rfl⟩
  have HSZCS : Hid (CS.size = 20) := Lib.hid (by rw [HCS.out]; rfl)
  have HONECS : Hid (CS.all (·.oneCell') = true) := Lib.hid (by rw [HCS.out]; exact refCells_one _ _ _ _ _ _ _ _ _ _ _ _ _)
  have HFS := Lib.hid hfs
  rw [show refCells A f0 f1 f2 f3 f4 f5 f6 f7 f8 (.slice va q vc) = CS from HCS.out.symm]
  rw [← HCS.out] at HAT
  clear h hfs hk hl
  go_enter Tryz.func131, Tryz.ntmps131
  go_upto_region 1 with fail
  have hin := RefIn.start w CS #[.int .i64 0, .int .i64 0, .int .i64 0, .int .i64 0, .int .u64 0, .int .u64 0, .int .u64 0, .int .u64 0, .int .u64 0, .int .u64 0, .int .u64 0, .int .u64 0, .int .u64 0, .slice none 0 0, .int .i64 0, .int .i64 0, .int .i64 0, .int .i64 0, .int .i64 0, .int .i64 0] rfl
  obtain ⟨bx, Hx⟩ : ∃ bx, Hid (bx = w.heap.size) := ⟨_, Lib.hid rfl⟩
  obtain ⟨bz, Hz⟩ : ∃ bz, Hid (bz = w.heap.size + 1) := ⟨_, Lib.hid rfl⟩
  rw [← Hz.out, ← Hx.out] at hin ⊢
  generalize (w.alloc (.cells CS 37)).alloc _ = W1 at hin ⊢
  have HIN := Lib.hid hin
  have HT1 := Lib.hid hin.turn
  clear hin
  go_upto_region 2 with (first
    | (refine wpList_load_row rfl 37 (.tmp 2) rfl bx rfl 37 CS (0, 0) (.struct fs) HIN.out.own HFS.out rfl (by rw [HSZCS.out]; exact info_refA) ?_)
    | (go_at_call 114; (with_reducible refine (HAT.out _ HT1.out).mono ?_); rintro e w2 ⟨rfl, hT⟩; have HT2 := Lib.hid hT; clear hT))
  have HIN2 := Lib.hid (HIN.out.step HT2.out (by simp) (by simp) (by simp))
  have c3 : w2.cell? ⟨bx, 3, none⟩ = some (.int .i64 A.faults) := by rw [HIN2.out.cell, HCS.out]; rfl
  have fr3 := HIN2.out.thaw 3
  go_upto_region 4 with fail
  have hin4 := HIN2.out.set 3 (.int .i64 ((A.faults : Int) + 1))
  generalize w2.setCell ⟨bx, 3, none⟩ (.int .i64 ((A.faults : Int) + 1)) = W4 at hin4 ⊢
  rw [HCS.out, miss_cells] at hin4
  obtain ⟨C4, HC4⟩ : ∃ C, Hid (C = refCells A.miss f0 f1 f2 f3 f4 f5 f6 f7 f8 (.slice va q vc)) := ⟨_, Lib.hid rfl⟩
  have HSZC4 : Hid (C4.size = 20) := Lib.hid (by rw [HC4.out]; rfl)
  have HONEC4 : Hid (C4.all (·.oneCell') = true) := Lib.hid (by rw [HC4.out]; exact refCells_one _ _ _ _ _ _ _ _ _ _ _ _ _)
  rw [← HC4.out] at hin4
  obtain ⟨Z, z1, z2⟩ := hin4.res
  have HZ1 := Lib.hid z1
  have HZ2 := Lib.hid z2
  have hld := hin4.told HSZC4.out HFS.out
  have HIN4 := Lib.hid hin4
  clear hin4 z1 z2 c3 fr3
  go_wp2_with (first
    | (refine wpList_load_row rfl 37 (.tmp 2) rfl bx rfl 37 C4 (0, 0) (.struct fs) HIN4.out.own HFS.out rfl (by rw [HSZC4.out]; exact info_refA) ?_)
    | (refine wpList_store_row rfl 37 (.tmp 4) (.tmp 17) rfl bz C4 rfl rfl 37 Z HZ2.out (by rw [HSZC4.out]; exact info_refA) (by rw [HZ1.out, HSZC4.out]) HONEC4.out ?_))
  exact bodyPost_ret (v := .tuple #[.agg C4, .int .i64 23]) (by simp [results, Tryz.results131, asAddr, hld]) rfl ⟨by rw [HC4.out], HIN4.out.end_⟩
set_option maxRecDepth 100000 in
set_option maxHeartbeats 4000000 in
theorem refFree_live (A : Ar) (f0 f1 f2 f3 f4 f5 f6 f7 f8 : Int) (v : Value) (l : List RB) (w : World) (h : BlksAt w v l) (hl : l.length ≤ 70000) (hf : A.t.frees ≤ 100000000) (k : Int) (j : Nat) (y : RB) (hy : l[j]? = some y) (hyk : y.1.h = k) (hu : ∀ i z, l[i]? = some z → z.1.h = k → i = j) :
    Calls Tryz.prog 131 #[.agg (refCells A f0 f1 f2 f3 f4 f5 f6 f7 f8 v), .int .u64 k] w fun e w' => ∃ v', e = .returned (.tuple #[.agg (refCells (A.less k) f0 f1 f2 f3 f4 f5 f6 f7 f8 v'), .int .i64 0]) ∧ BlksAt w' v' (l.take j ++ l.drop (j + 1)) ∧ Frm.Turn [] w w' ∧ ∀ k, v'.ownBlock = some k → w.heap.size ≤ k ∧ k < w'.heap.size := by
  obtain ⟨va, vc, rfl⟩ := h.form
  obtain ⟨fs, hfs⟩ := struct_of under_refA
  have HAT := Lib.hid (fun W (hT : Frm.Turn [] w W) => refAt_yes A f0 f1 f2 f3 f4 f5 f6 f7 f8 _ l W (h.step hT) hl k j y hy hyk hu)
  have HB := Lib.hid h
  obtain ⟨g, vc', e, hqc, hvm, hparts⟩ := h.cuts
  obtain ⟨q, HQ⟩ : ∃ q, Hid (q = l.length) := ⟨_, Lib.hid rfl⟩
  have hjq : j < q := by rw [HQ.out]; exact (List.getElem?_eq_some_iff.1 hy).1
  rw [← HQ.out] at HAT e hqc hparts hl ⊢
  simp only [Value.slice.injEq] at e
  obtain ⟨e1, _, e3⟩ := e
  subst e1
  subst e3
  have HPT := Lib.hid (hparts j (by omega))
  have HPT2 := Lib.hid (hparts (j + 1) (by omega))
  have hhd := run_head g q j vc (by omega) (by unfold maxLen at hvm; omega)
  have htl := run_tail2 g q (j + 1) vc (by omega)
  have hc1 : ((j + 1 : Nat) : Int) = (j : Int) + 1 := by simp
  simp only [hc1] at htl
  clear hc1
  obtain ⟨ot, HOT⟩ : ∃ ot, Hid (ot = (g.map fun k => (⟨k, if vc = j + 1 then 0 else (j + 1) * 2, none⟩ : Addr))) := ⟨_, Lib.hid rfl⟩
  obtain ⟨oh, HOH⟩ : ∃ oh, Hid (oh = (g.map fun k => (⟨k, 0, none⟩ : Addr))) := ⟨_, Lib.hid rfl⟩
  rw [← HOT.out] at HPT2 htl
  rw [← HOH.out] at HPT htl hhd HAT ⊢
  have HVM := Lib.hid hvm
  obtain ⟨CS, HCS⟩ : ∃ CS, Hid (CS = refCells A f0 f1 f2 f3 f4 f5 f6 f7 f8 (.slice oh q vc)) := ⟨_, Lib.hid rfl⟩
  have HSZCS : Hid (CS.size = 20) := Lib.hid (by rw [HCS.out]; rfl)
  have HONECS : Hid (CS.all (·.oneCell') = true) := Lib.hid (by rw [HCS.out]; exact refCells_one _ _ _ _ _ _ _ _ _ _ _ _ _)
  have HFS := Lib.hid hfs
  rw [show refCells A f0 f1 f2 f3 f4 f5 f6 f7 f8 (.slice oh q vc) = CS from HCS.out.symm]
  rw [← HCS.out] at HAT
  clear h hfs hy hyk hu hparts hvm
  go_enter Tryz.func131, Tryz.ntmps131
  go_upto_region 1 with fail
  have hin := RefIn.start w CS #[.int .i64 0, .int .i64 0, .int .i64 0, .int .i64 0, .int .u64 0, .int .u64 0, .int .u64 0, .int .u64 0, .int .u64 0, .int .u64 0, .int .u64 0, .int .u64 0, .int .u64 0, .slice none 0 0, .int .i64 0, .int .i64 0, .int .i64 0, .int .i64 0, .int .i64 0, .int .i64 0] rfl
  obtain ⟨bx, Hx⟩ : ∃ bx, Hid (bx = w.heap.size) := ⟨_, Lib.hid rfl⟩
  obtain ⟨bz, Hz⟩ : ∃ bz, Hid (bz = w.heap.size + 1) := ⟨_, Lib.hid rfl⟩
  rw [← Hz.out, ← Hx.out] at hin ⊢
  generalize (w.alloc (.cells CS 37)).alloc _ = W1 at hin ⊢
  have HIN := Lib.hid hin
  have HT1 := Lib.hid hin.turn
  clear hin
  go_upto_region 2 with (first
    | (refine wpList_load_row rfl 37 (.tmp 2) rfl bx rfl 37 CS (0, 0) (.struct fs) HIN.out.own HFS.out rfl (by rw [HSZCS.out]; exact info_refA) ?_)
    | (go_at_call 114; (with_reducible refine (HAT.out _ HT1.out).mono ?_); rintro e w2 ⟨rfl, hT⟩; have HT2 := Lib.hid hT; clear hT))
  have HIN2 := Lib.hid (HIN.out.step HT2.out (by simp) (by simp) (by simp))
  have c13 : ∀ ob, (w2.alloc ob).cell? ⟨bx, 13, none⟩ = some (.slice oh q vc) := fun ob => ((Frm.Turn.refl [] w2).alloc ob).cell (by rw [HIN2.out.cell, HCS.out]; rfl) (by simp)
  obtain ⟨i0, hi0, hz0, hz1, hz2⟩ := info_parts info_blk
  have HO10 : Hid ((w2.alloc (.cells #[] 135)).ownsRow 0 135 2 (.slice (some ⟨w2.heap.size, 0, none⟩) 0 0) 0 []) := Lib.hid (World.ownsRow_made w2 #[] 0 (Nat.zero_le _) (by simp [maxLen]) (by simp))
  have HS10 := Lib.hid ((HPT.out _ (HIN2.out.turn.alloc (.cells #[] 135))).1)
  have HONE1 := Lib.hid (rb_one (l.take j) (fun x hx => HB.out.slices x (List.mem_of_mem_take hx)))
  have j0 : decide ((j : Int) < 0) = false := by simp
  go_upto_region 6 with (first
    | (at_builtin; refine wpList_append_src rfl (.tmp 18) (.tmp 22) 33 rfl 135 i0 (.agg #[.int .u64 0, .slice none 0 0]) 2 32 under_blks hi0 hz0 hz1 hz2 rfl (by decide) (.slice (some ⟨w2.heap.size, 0, none⟩) 0 0) 0 [] rfl HO10.out (.slice oh j vc) j (rbCells (l.take j)) rfl HS10.out HONE1.out (by unfold maxLen; omega) (by omega) ?_; intro v1 w3 hown3 hg3 hl3; simp only [Nat.zero_add, List.nil_append] at hown3; obtain ⟨ao1, cp1, rfl⟩ := Frm.row_form hown3; have HO3 := Lib.hid hown3; have HG3 := Lib.hid hg3; have HL3 := Lib.hid hl3; clear hown3 hg3 hl3))
  have HT3 : Hid (Frm.Turn [] w2 w3) := Lib.hid (fresh_grown (v := .slice none 0 0) HG3.out)
  have HB1 := Lib.hid (fresh_own HL3.out)
  have HIN3 := Lib.hid (HIN2.out.step HT3.out (by simp) (by simp) (by simp))
  have HS5 := Lib.hid ((HPT2.out _ HIN3.out.turn).2)
  have HONE3 := Lib.hid (rb_one (l.drop (j + 1)) (fun x hx => HB.out.slices x (List.mem_of_mem_drop hx)))
  clear c13
  have c13 : w3.cell? ⟨bx, 13, none⟩ = some (.slice oh q vc) := by rw [HIN3.out.cell, HCS.out]; rfl
  clear HG3 HL3 HS10 HO10
  go_upto_region 7 with (first
    | (at_builtin; refine wpList_append_src rfl (.tmp 24) (.tmp 29) 33 rfl 135 i0 (.agg #[.int .u64 0, .slice none 0 0]) 2 32 under_blks hi0 hz0 hz1 hz2 rfl (by decide) (.slice ao1 j cp1) j _ rfl HO3.out (.slice ot (q - (j + 1)) (vc - (j + 1))) (q - (j + 1)) (rbCells (l.drop (j + 1))) rfl HS5.out HONE3.out (by unfold maxLen; omega) (by omega) ?_; intro v4 w6 hown6 hg6 hl6; obtain ⟨ao4, cp4, rfl⟩ := Frm.row_form hown6; have HO6 := Lib.hid hown6; have HT6 : Hid (Frm.Turn [] w2 w6) := Lib.hid (HT3.out.trans (Frm.Turn.of_grown hg6) (fun k hk => .inr (HB1.out k (by simpa using hk)))); have HL6 := Lib.hid hl6; have HIN6 := Lib.hid (HIN2.out.step HT6.out (by simp) (by simp) (by simp)); have f13 := HIN6.out.thaw 13; have c13' : w6.cell? ⟨bx, 13, none⟩ = some (.slice oh q vc) := (by rw [HIN6.out.cell, HCS.out]; rfl); clear hown6 hg6 hl6))
  have HB4 : Hid (∀ k, (Value.slice ao4 (j + (q - (j + 1))) cp4).ownBlock = some k → w2.heap.size ≤ k ∧ k < w6.heap.size) := Lib.hid fun k hk => by
    have k2 := HT3.out.size
    have k3 := own_lt HO6.out k hk
    refine ⟨?_, k3⟩
    rcases HL6.out with e | e
    · exact HB1.out k (e ▸ hk)
    · rw [e] at hk; simp at hk; omega
  have hin10 := HIN6.out.set 13 (.slice ao4 (j + (q - (j + 1))) cp4)
  have ht10 : Frm.Turn [bx, bz] w6 (w6.setCell ⟨bx, 13, none⟩ (.slice ao4 (j + (q - (j + 1))) cp4)) := (Frm.Turn.refl _ w6).setCell (p := ⟨bx, 13, none⟩) (.inl (by simp)) _
  generalize w6.setCell ⟨bx, 13, none⟩ (.slice ao4 (j + (q - (j + 1))) cp4) = W10 at hin10 ht10 ⊢
  have HIN10 := Lib.hid hin10
  have HT10 := Lib.hid ht10
  have HLT := Lib.hid HIN2.out.lt
  clear hin10 ht10 f13 c13' c13 HL6 HS5
  have c15 : W10.cell? ⟨bx, 15, none⟩ = some (.int .i64 A.t.frees) := by rw [HIN10.out.cell, HCS.out]; rfl
  have f15 := HIN10.out.thaw 15
  go_upto_region 8 with fail
  have hin11 := HIN10.out.set 15 (.int .i64 ((A.t.frees : Int) + 1))
  have ht11 : Frm.Turn [bx, bz] w6 (W10.setCell ⟨bx, 15, none⟩ (.int .i64 ((A.t.frees : Int) + 1))) := HT10.out.setCell (p := ⟨bx, 15, none⟩) (.inl (by simp)) _
  generalize W10.setCell ⟨bx, 15, none⟩ (.int .i64 ((A.t.frees : Int) + 1)) = W11 at hin11 ht11 ⊢
  rw [HCS.out, less_cells A k] at hin11
  obtain ⟨C4, HC4⟩ : ∃ C, Hid (C = refCells (A.less k) f0 f1 f2 f3 f4 f5 f6 f7 f8 (.slice ao4 (j + (q - (j + 1))) cp4)) := ⟨_, Lib.hid rfl⟩
  have HSZC4 : Hid (C4.size = 20) := Lib.hid (by rw [HC4.out]; rfl)
  have HONEC4 : Hid (C4.all (·.oneCell') = true) := Lib.hid (by rw [HC4.out]; exact refCells_one _ _ _ _ _ _ _ _ _ _ _ _ _)
  rw [← HC4.out] at hin11
  obtain ⟨Z, z1, z2⟩ := hin11.res
  have HZ1 := Lib.hid z1
  have HZ2 := Lib.hid z2
  have hld := hin11.told HSZC4.out HFS.out
  have HIN11 := Lib.hid hin11
  have HTF : Hid (Frm.Turn [bx, bz] w6 (W11.setRow bz C4)) := Lib.hid (setRow_turn ht11 (.inl (by simp)) C4)
  clear hin11 z1 z2 c15 f15 ht11
  go_wp2_with (first
    | (refine wpList_load_row rfl 37 (.tmp 2) rfl bx rfl 37 C4 (0, 0) (.struct fs) HIN11.out.own HFS.out rfl (by rw [HSZC4.out]; exact info_refA) ?_)
    | (refine wpList_store_row rfl 37 (.tmp 4) (.tmp 38) rfl bz C4 rfl rfl 37 Z HZ2.out (by rw [HSZC4.out]; exact info_refA) (by rw [HZ1.out, HSZC4.out]) HONEC4.out ?_))
  have hlen : (l.take j ++ l.drop (j + 1)).length = j + (q - (j + 1)) := by rw [List.length_append, List.length_take, List.length_drop, ← HQ.out, Nat.min_eq_left (by omega)]
  refine bodyPost_ret (v := .tuple #[.agg C4, .int .i64 0]) (by simp [results, Tryz.results131, asAddr, hld]) rfl ⟨.slice ao4 (j + (q - (j + 1))) cp4, by rw [HC4.out], ?_, HIN11.out.end_, fun k hk => ?_⟩
  · refine BlksAt.of_row (fun y hy => ?_) (by rw [hlen, rbCells_append]; exact HO6.out) HTF.out (fun k hk hk' => ?_)
    · refine (HB.out.rows y ?_).turn HIN11.out.end_ (by simp)
      rcases List.mem_append.1 hy with hy | hy
      · exact List.mem_of_mem_take hy
      · exact List.mem_of_mem_drop hy
    · have k1 := HB4.out k hk
      have k2 := HLT.out
      simp at hk'; omega
  · have k1 := HB4.out k hk
    have k2 := HIN2.out.turn.size
    have k3 := HTF.out.size
    omega
/-- Free, in one form. -/
theorem refFree_any (A : Ar) (f0 f1 f2 f3 f4 f5 f6 f7 f8 : Int) (u : Value) (G : List Nat) (w : World) (h : RefAt w A f0 f1 f2 f3 f4 f5 f6 f7 f8 u G) (hok : A.Ok) (hf : A.faults ≤ 100000000) (hr : A.t.frees ≤ 100000000) (k : Int) :
    Calls Tryz.prog 131 #[u, .int .u64 k] w fun e w' => ∃ u' G', e = .returned (.tuple #[u', .int .i64 (A.free k).2]) ∧ RefAt w' (A.free k).1 f0 f1 f2 f3 f4 f5 f6 f7 f8 u' G' ∧ Frm.Turn [] w w' ∧ ∀ q, q ∈ G' → q ∈ G ∨ (w.heap.size ≤ q ∧ q < w'.heap.size) := by
  obtain ⟨v, l, rfl, hAL, hB, rfl⟩ := h
  have hlen : l.length ≤ 60000 := by
    have u1 := length_le_used (fun x hx => (hok.len x hx).1)
    have u2 := hok.top
    have u3 := hok.peak
    have u4 := hok.cap
    rw [← hAL, List.length_map] at u1
    rw [← hAL] at u2
    omega
  rcases place_of hok hAL k with ⟨hh, hn⟩ | ⟨hh, j, y, hy, hyk, hu, hyA⟩
  · have e1 : A.free k = (A.miss, 23) := by unfold Ar.free; rw [hh]; rfl
    rw [e1]
    refine (refFree_gone A f0 f1 f2 f3 f4 f5 f6 f7 f8 v l w hB (by omega) hf k hn).mono ?_
    rintro e w' ⟨rfl, hT⟩
    exact ⟨_, _, rfl, ⟨v, l, rfl, hAL, hB.step hT, rfl⟩, hT, fun q hq => .inl hq⟩
  · have e1 : A.free k = (A.less k, 0) := by unfold Ar.free Ar.less; rw [hh]; rfl
    rw [e1]
    refine (refFree_live A f0 f1 f2 f3 f4 f5 f6 f7 f8 v l w hB (by omega) hr k j y hy hyk hu).mono ?_
    rintro e w' ⟨v', rfl, h2, hT, hv⟩
    refine ⟨_, _, rfl, ⟨v', _, rfl, ?_, h2, rfl⟩, hT, fun q hq => ?_⟩
    · have hd := drop_at hok hyA
      rw [hyk] at hd
      show _ = drop A.L k
      rw [hd, List.eraseIdx_eq_take_drop_succ, List.map_append, List.map_take, List.map_drop, hAL]
    · rcases mem_refFoot.1 hq with hq | ⟨z, hz, hq⟩
      · exact .inr (hv q hq)
      · refine .inl (mem_refFoot.2 (.inr ⟨z, ?_, hq⟩))
        rcases List.mem_append.1 hz with hz | hz
        · exact List.mem_of_mem_take hz
        · exact List.mem_of_mem_drop hz
end Arn
end Go.Proofs.YtpajafecodkndaaGreat

set_option linter.unusedVariables false
set_option linter.unusedSimpArgs false
namespace Go.Proofs.YtpajafecodkndaaGreat
namespace Arn
open Go.RowKit Hp Go.Maps

theorem RefIn.start3 (w : World) (CS Q Z : Array Value) (hz : Z.size = 20) : RefIn w w.heap.size (w.heap.size + 2) CS (((w.alloc (.cells CS 37)).alloc (.cells Q 66)).alloc (.cells Z 37)) ∧ (((w.alloc (.cells CS 37)).alloc (.cells Q 66)).alloc (.cells Z 37)).heap[w.heap.size + 1]? = some (.cells Q 66 (0, 0)) := by
  have h1 := World.alloc_heap_new w (.cells CS 37)
  have h2 := World.alloc_heap_new (w.alloc (.cells CS 37)) (.cells Q 66)
  have h3 := World.alloc_heap_new ((w.alloc (.cells CS 37)).alloc (.cells Q 66)) (.cells Z 37)
  rw [World.size_alloc] at h2
  rw [World.size_alloc, World.size_alloc] at h3
  have t2 : Frm.Turn [] (w.alloc (.cells CS 37)) (((w.alloc (.cells CS 37)).alloc (.cells Q 66)).alloc (.cells Z 37)) := ((Frm.Turn.refl [] _).alloc _).alloc _
  have t3 : Frm.Turn [] ((w.alloc (.cells CS 37)).alloc (.cells Q 66)) (((w.alloc (.cells CS 37)).alloc (.cells Q 66)).alloc (.cells Z 37)) := (Frm.Turn.refl [] _).alloc _
  exact ⟨⟨t2.keep h1 (by simp), ⟨Z, hz, h3⟩, by omega, Nat.le_refl _, by omega, ((Frm.Turn.refl [] w).alloc _).trans t2 (by simp)⟩, t3.keep h2 (by simp)⟩
theorem fix_cell (A : Ar) (f0 f1 f2 f3 f4 f5 f6 f7 f8 : Int) (v : Value) : ∀ j u, (u64s [f0, f1, f2, f3, f4, f5, f6, f7, f8])[j]? = some u → (refCells A f0 f1 f2 f3 f4 f5 f6 f7 f8 v)[4 + j]? = some u := by
  intro j u h
  match j, h with
  | 0, h => simpa [refCells, u64s] using h
  | 1, h => simpa [refCells, u64s] using h
  | 2, h => simpa [refCells, u64s] using h
  | 3, h => simpa [refCells, u64s] using h
  | 4, h => simpa [refCells, u64s] using h
  | 5, h => simpa [refCells, u64s] using h
  | 6, h => simpa [refCells, u64s] using h
  | 7, h => simpa [refCells, u64s] using h
  | 8, h => simpa [refCells, u64s] using h
  | n + 9, h => simp [u64s] at h
theorem word_at {ws : List Int} {m : Nat} (h : m < ws.length) : (u64s ws)[m]? = some (.int .u64 (ws.getD m 0)) := by
  simp [u64s, List.getElem?_map, List.getElem?_eq_getElem h, List.getD, h]
theorem cell_blt {w : World} {a : Addr} {v : Value} (h : w.cell? a = some v) : a.block < w.heap.size := by
  unfold World.cell? at h
  cases hh : w.heap[a.block]? with
  | none => simp [hh] at h
  | some o => exact (Array.getElem?_eq_some_iff.1 hh).1
set_option maxRecDepth 100000 in
set_option maxHeartbeats 4000000 in
theorem refGet_gone (A : Ar) (f0 f1 f2 f3 f4 f5 f6 f7 f8 : Int) (v : Value) (l : List RB) (w : World) (h : BlksAt w v l) (hl : l.length ≤ 70000) (hf : A.faults ≤ 100000000) (blk i : Int) (hne : blk ≠ 0) (hk : ∀ y, y ∈ l → y.1.h ≠ blk) :
    Calls Tryz.prog 71 #[.agg (refCells A f0 f1 f2 f3 f4 f5 f6 f7 f8 v), .agg #[.int .u64 blk, .int .i64 i]] w fun e w' => e = .returned (.tuple #[.agg (refCells A.miss f0 f1 f2 f3 f4 f5 f6 f7 f8 v), .int .u64 0, .int .i64 23]) ∧ Frm.Turn [] w w' := by
  obtain ⟨va, vc, rfl⟩ := h.form
  obtain ⟨fs, hfs⟩ := struct_of under_refA
  have HAT := Lib.hid (fun W (hT : Frm.Turn [] w W) => refAt_no A f0 f1 f2 f3 f4 f5 f6 f7 f8 _ l W (h.step hT) hl blk hk)
  obtain ⟨q, HQ⟩ : ∃ q, Hid (q = l.length) := ⟨_, Lib.hid rfl⟩
  rw [← HQ.out] at HAT ⊢
  obtain ⟨CS, HCS⟩ : ∃ CS, Hid (CS = refCells A f0 f1 f2 f3 f4 f5 f6 f7 f8 (.slice va q vc)) := ⟨_, Lib.hid rfl⟩
  have HSZCS : Hid (CS.size = 20) := Lib.hid (by rw [HCS.out]; rfl)
  have HONECS : Hid (CS.all (·.oneCell') = true) := Lib.hid (by rw [HCS.out]; exact refCells_one _ _ _ _ _ _ _ _ _ _ _ _ _)
  have HFS := Lib.hid hfs
  rw [show refCells A f0 f1 f2 f3 f4 f5 f6 f7 f8 (.slice va q vc) = CS from HCS.out.symm]
  rw [← HCS.out] at HAT
  clear h hfs hl
  go_enter Tryz.func71, Tryz.ntmps71
  go_upto_region 1 with fail
  obtain ⟨hin, hbq⟩ := RefIn.start3 w CS #[.int .u64 blk, .int .i64 i] #[.int .i64 0, .int .i64 0, .int .i64 0, .int .i64 0, .int .u64 0, .int .u64 0, .int .u64 0, .int .u64 0, .int .u64 0, .int .u64 0, .int .u64 0, .int .u64 0, .int .u64 0, .slice none 0 0, .int .i64 0, .int .i64 0, .int .i64 0, .int .i64 0, .int .i64 0, .int .i64 0] rfl
  obtain ⟨bx, Hx⟩ : ∃ bx, Hid (bx = w.heap.size) := ⟨_, Lib.hid rfl⟩
  obtain ⟨bq, Hq⟩ : ∃ bq, Hid (bq = w.heap.size + 1) := ⟨_, Lib.hid rfl⟩
  obtain ⟨bz, Hz⟩ : ∃ bz, Hid (bz = w.heap.size + 2) := ⟨_, Lib.hid rfl⟩
  rw [← Hz.out, ← Hx.out] at hin
  rw [← Hq.out] at hbq
  rw [← Hz.out, ← Hq.out, ← Hx.out]
  generalize ((w.alloc (.cells CS 37)).alloc _).alloc _ = W1 at hin hbq ⊢
  have HIN := Lib.hid hin
  have HT1 := Lib.hid hin.turn
  have HBQ := Lib.hid hbq
  have a0 : W1.cell? ⟨bq, 0, none⟩ = some (.int .u64 blk) := Frm.cell_row _ _ _ _ _ _ hbq
  have a1 : W1.cell? ⟨bq, 1, none⟩ = some (.int .i64 i) := Frm.cell_row _ _ _ _ _ _ hbq
  clear hin hbq
  have hb0 : (blk != 0) = true := by simpa using hne
  have hb1 : (blk == 0) = false := by simpa using hne
  go_upto_region 4 with (first
    | (refine wpList_load_row rfl 37 (.tmp 2) rfl bx rfl 37 CS (0, 0) (.struct fs) HIN.out.own HFS.out rfl (by rw [HSZCS.out]; exact info_refA) ?_)
    | (go_at_call 114; (with_reducible refine (HAT.out _ HT1.out).mono ?_); rintro e w2 ⟨rfl, hT⟩; have HT2 := Lib.hid hT; clear hT))
  have HIN2 := Lib.hid (HIN.out.step HT2.out (by simp) (by simp) (by simp))
  have HBQ2 := Lib.hid (HT2.out.keep HBQ.out (by simp))
  clear a0 a1
  have a0 : w2.cell? ⟨bq, 0, none⟩ = some (.int .u64 blk) := Frm.cell_row _ _ _ _ _ _ HBQ2.out
  have a1 : w2.cell? ⟨bq, 1, none⟩ = some (.int .i64 i) := Frm.cell_row _ _ _ _ _ _ HBQ2.out
  have c3 : w2.cell? ⟨bx, 3, none⟩ = some (.int .i64 A.faults) := by rw [HIN2.out.cell, HCS.out]; rfl
  have fr3 := HIN2.out.thaw 3
  go_upto_region 6 with fail
  have hin4 := HIN2.out.set 3 (.int .i64 ((A.faults : Int) + 1))
  generalize w2.setCell ⟨bx, 3, none⟩ (.int .i64 ((A.faults : Int) + 1)) = W4 at hin4 ⊢
  rw [HCS.out, miss_cells] at hin4
  obtain ⟨C4, HC4⟩ : ∃ C, Hid (C = refCells A.miss f0 f1 f2 f3 f4 f5 f6 f7 f8 (.slice va q vc)) := ⟨_, Lib.hid rfl⟩
  have HSZC4 : Hid (C4.size = 20) := Lib.hid (by rw [HC4.out]; rfl)
  have HONEC4 : Hid (C4.all (·.oneCell') = true) := Lib.hid (by rw [HC4.out]; exact refCells_one _ _ _ _ _ _ _ _ _ _ _ _ _)
  rw [← HC4.out] at hin4
  obtain ⟨Z, z1, z2⟩ := hin4.res
  have HZ1 := Lib.hid z1
  have HZ2 := Lib.hid z2
  have hld := hin4.told HSZC4.out HFS.out
  have HIN4 := Lib.hid hin4
  clear hin4 z1 z2 c3 fr3
  go_wp2_with (first
    | (refine wpList_load_row rfl 37 (.tmp 2) rfl bx rfl 37 C4 (0, 0) (.struct fs) HIN4.out.own HFS.out rfl (by rw [HSZC4.out]; exact info_refA) ?_)
    | (refine wpList_store_row rfl 37 (.tmp 4) (.tmp 24) rfl bz C4 rfl rfl 37 Z HZ2.out (by rw [HSZC4.out]; exact info_refA) (by rw [HZ1.out, HSZC4.out]) HONEC4.out ?_))
  exact bodyPost_ret (v := .tuple #[.agg C4, .int .u64 0, .int .i64 23]) (by simp [results, Tryz.results71, asAddr, hld]) rfl ⟨by rw [HC4.out], HIN4.out.end_⟩
set_option maxRecDepth 100000 in
set_option maxHeartbeats 4000000 in
theorem refGet_blkout (A : Ar) (f0 f1 f2 f3 f4 f5 f6 f7 f8 : Int) (v : Value) (l : List RB) (w : World) (h : BlksAt w v l) (hl : l.length ≤ 70000) (hf : A.faults ≤ 100000000) (blk i : Int) (hne : blk ≠ 0) (j : Nat) (y : RB) (hy : l[j]? = some y) (hyk : y.1.h = blk) (hu : ∀ i z, l[i]? = some z → z.1.h = blk → i = j) (ho : i < 0 ∨ (y.1.ws.length : Int) ≤ i) :
    Calls Tryz.prog 71 #[.agg (refCells A f0 f1 f2 f3 f4 f5 f6 f7 f8 v), .agg #[.int .u64 blk, .int .i64 i]] w fun e w' => e = .returned (.tuple #[.agg (refCells A.miss f0 f1 f2 f3 f4 f5 f6 f7 f8 v), .int .u64 0, .int .i64 24]) ∧ Frm.Turn [] w w' := by
  obtain ⟨va, vc, rfl⟩ := h.form
  obtain ⟨fs, hfs⟩ := struct_of under_refA
  have HB := Lib.hid h
  have HY := Lib.hid hy
  have HAT := Lib.hid (fun W (hT : Frm.Turn [] w W) => refAt_yes A f0 f1 f2 f3 f4 f5 f6 f7 f8 _ l W (h.step hT) hl blk j y hy hyk hu)
  have hjq : j < l.length := (List.getElem?_eq_some_iff.1 hy).1
  obtain ⟨q, HQ⟩ : ∃ q, Hid (q = l.length) := ⟨_, Lib.hid rfl⟩
  rw [← HQ.out] at HAT hjq ⊢
  obtain ⟨CS, HCS⟩ : ∃ CS, Hid (CS = refCells A f0 f1 f2 f3 f4 f5 f6 f7 f8 (.slice va q vc)) := ⟨_, Lib.hid rfl⟩
  have HSZCS : Hid (CS.size = 20) := Lib.hid (by rw [HCS.out]; rfl)
  have HONECS : Hid (CS.all (·.oneCell') = true) := Lib.hid (by rw [HCS.out]; exact refCells_one _ _ _ _ _ _ _ _ _ _ _ _ _)
  have HFS := Lib.hid hfs
  rw [show refCells A f0 f1 f2 f3 f4 f5 f6 f7 f8 (.slice va q vc) = CS from HCS.out.symm]
  rw [← HCS.out] at HAT
  clear hy hyk hu
  clear h hfs hl
  go_enter Tryz.func71, Tryz.ntmps71
  go_upto_region 1 with fail
  obtain ⟨hin, hbq⟩ := RefIn.start3 w CS #[.int .u64 blk, .int .i64 i] #[.int .i64 0, .int .i64 0, .int .i64 0, .int .i64 0, .int .u64 0, .int .u64 0, .int .u64 0, .int .u64 0, .int .u64 0, .int .u64 0, .int .u64 0, .int .u64 0, .int .u64 0, .slice none 0 0, .int .i64 0, .int .i64 0, .int .i64 0, .int .i64 0, .int .i64 0, .int .i64 0] rfl
  obtain ⟨bx, Hx⟩ : ∃ bx, Hid (bx = w.heap.size) := ⟨_, Lib.hid rfl⟩
  obtain ⟨bq, Hq⟩ : ∃ bq, Hid (bq = w.heap.size + 1) := ⟨_, Lib.hid rfl⟩
  obtain ⟨bz, Hz⟩ : ∃ bz, Hid (bz = w.heap.size + 2) := ⟨_, Lib.hid rfl⟩
  rw [← Hz.out, ← Hx.out] at hin
  rw [← Hq.out] at hbq
  rw [← Hz.out, ← Hq.out, ← Hx.out]
  generalize ((w.alloc (.cells CS 37)).alloc _).alloc _ = W1 at hin hbq ⊢
  have HIN := Lib.hid hin
  have HT1 := Lib.hid hin.turn
  have HBQ := Lib.hid hbq
  have a0 : W1.cell? ⟨bq, 0, none⟩ = some (.int .u64 blk) := Frm.cell_row _ _ _ _ _ _ hbq
  have a1 : W1.cell? ⟨bq, 1, none⟩ = some (.int .i64 i) := Frm.cell_row _ _ _ _ _ _ hbq
  clear hin hbq
  have hb0 : (blk != 0) = true := by simpa using hne
  have hb1 : (blk == 0) = false := by simpa using hne
  go_upto_region 4 with (first
    | (refine wpList_load_row rfl 37 (.tmp 2) rfl bx rfl 37 CS (0, 0) (.struct fs) HIN.out.own HFS.out rfl (by rw [HSZCS.out]; exact info_refA) ?_)
    | (go_at_call 114; (with_reducible refine (HAT.out _ HT1.out).mono ?_); rintro e w2 ⟨rfl, hT⟩; have HT2 := Lib.hid hT; clear hT))
  have HIN2 := Lib.hid (HIN.out.step HT2.out (by simp) (by simp) (by simp))
  have HBQ2 := Lib.hid (HT2.out.keep HBQ.out (by simp))
  clear a0 a1
  have a0 : w2.cell? ⟨bq, 0, none⟩ = some (.int .u64 blk) := Frm.cell_row _ _ _ _ _ _ HBQ2.out
  have a1 : w2.cell? ⟨bq, 1, none⟩ = some (.int .i64 i) := Frm.cell_row _ _ _ _ _ _ HBQ2.out
  obtain ⟨g, hva, hcell⟩ : ∃ g, va = some ⟨g, 0, none⟩ ∧ ∀ j u, (rbCells l)[j]? = some u → w.cell? ⟨g, j, none⟩ = some u := by
    rcases HB.out.head with ⟨_, e2⟩ | ⟨g, c', e1, _, _, hc⟩
    · have := HY.out; rw [e2] at this; simp at this
    · simp only [Value.slice.injEq] at e1
      exact ⟨g, e1.1, hc⟩
  subst hva
  have hcB := HIN2.out.turn.cell (hcell _ _ (rbCells_get l j y HY.out).2) (by simp)
  obtain ⟨ya, yc, hyf, hyw⟩ : ∃ ya yc, y.2 = .slice ya y.1.ws.length yc ∧ (0 < y.1.ws.length → ∃ ad, ya = some ad ∧ ∀ j u, (u64s y.1.ws)[j]? = some u → w.cell? (ad.add j) = some u) := by
    rcases HB.out.rows y (List.mem_of_getElem? HY.out) with ⟨e1, e2⟩ | ⟨a, c, e1, hc⟩
    · exact ⟨none, 0, by rw [e1, e2]; rfl, fun h => by rw [e2] at h; simp at h⟩
    · exact ⟨_, _, e1, fun _ => ⟨a, rfl, hc⟩⟩
  rw [hyf] at hcB
  have HYW := Lib.hid hyw
  have c13 : w2.cell? ⟨bx, 13, none⟩ = some (.slice (some ⟨g, 0, none⟩) q vc) := by rw [HIN2.out.cell, HCS.out]; rfl
  have hj0 : decide ((j : Int) < 0) = false := by simp
  clear hcell hyf hyw
  obtain ⟨n, HN⟩ : ∃ n, Hid (n = y.1.ws.length) := ⟨_, Lib.hid rfl⟩
  rw [← HN.out] at hcB ho
  obtain ⟨ws, HWS⟩ : ∃ ws, Hid (ws = y.1.ws) := ⟨_, Lib.hid rfl⟩
  have r1 : decide (i < 0) = true ∨ (decide (i < 0) = false ∧ decide ((n : Int) ≤ i) = true) := by simp; omega
  clear ho
  rcases r1 with r1 | ⟨r1, r2⟩
  · have c3 : w2.cell? ⟨bx, 3, none⟩ = some (.int .i64 A.faults) := by rw [HIN2.out.cell, HCS.out]; rfl
    have fr3 := HIN2.out.thaw 3
    go_upto_region 10 with fail
    have hin4 := HIN2.out.set 3 (.int .i64 ((A.faults : Int) + 1))
    generalize w2.setCell ⟨bx, 3, none⟩ (.int .i64 ((A.faults : Int) + 1)) = W4 at hin4 ⊢
    rw [HCS.out, miss_cells] at hin4
    obtain ⟨C4, HC4⟩ : ∃ C, Hid (C = refCells A.miss f0 f1 f2 f3 f4 f5 f6 f7 f8 (.slice (some ⟨g, 0, none⟩) q vc)) := ⟨_, Lib.hid rfl⟩
    have HSZC4 : Hid (C4.size = 20) := Lib.hid (by rw [HC4.out]; rfl)
    have HONEC4 : Hid (C4.all (·.oneCell') = true) := Lib.hid (by rw [HC4.out]; exact refCells_one _ _ _ _ _ _ _ _ _ _ _ _ _)
    rw [← HC4.out] at hin4
    obtain ⟨Z, z1, z2⟩ := hin4.res
    have HZ1 := Lib.hid z1
    have HZ2 := Lib.hid z2
    have hld := hin4.told HSZC4.out HFS.out
    have HIN4 := Lib.hid hin4
    clear hin4 z1 z2 c3 fr3
    go_wp2_with (first
      | (refine wpList_load_row rfl 37 (.tmp 2) rfl bx rfl 37 C4 (0, 0) (.struct fs) HIN4.out.own HFS.out rfl (by rw [HSZC4.out]; exact info_refA) ?_)
      | (refine wpList_store_row rfl 37 (.tmp 4) (.tmp 45) rfl bz C4 rfl rfl 37 Z HZ2.out (by rw [HSZC4.out]; exact info_refA) (by rw [HZ1.out, HSZC4.out]) HONEC4.out ?_))
    exact bodyPost_ret (v := .tuple #[.agg C4, .int .u64 0, .int .i64 24]) (by simp [results, Tryz.results71, asAddr, hld]) rfl ⟨by rw [HC4.out], HIN4.out.end_⟩
  · have c3 : w2.cell? ⟨bx, 3, none⟩ = some (.int .i64 A.faults) := by rw [HIN2.out.cell, HCS.out]; rfl
    have fr3 := HIN2.out.thaw 3
    go_upto_region 10 with fail
    have hin4 := HIN2.out.set 3 (.int .i64 ((A.faults : Int) + 1))
    generalize w2.setCell ⟨bx, 3, none⟩ (.int .i64 ((A.faults : Int) + 1)) = W4 at hin4 ⊢
    rw [HCS.out, miss_cells] at hin4
    obtain ⟨C4, HC4⟩ : ∃ C, Hid (C = refCells A.miss f0 f1 f2 f3 f4 f5 f6 f7 f8 (.slice (some ⟨g, 0, none⟩) q vc)) := ⟨_, Lib.hid rfl⟩
    have HSZC4 : Hid (C4.size = 20) := Lib.hid (by rw [HC4.out]; rfl)
    have HONEC4 : Hid (C4.all (·.oneCell') = true) := Lib.hid (by rw [HC4.out]; exact refCells_one _ _ _ _ _ _ _ _ _ _ _ _ _)
    rw [← HC4.out] at hin4
    obtain ⟨Z, z1, z2⟩ := hin4.res
    have HZ1 := Lib.hid z1
    have HZ2 := Lib.hid z2
    have hld := hin4.told HSZC4.out HFS.out
    have HIN4 := Lib.hid hin4
    clear hin4 z1 z2 c3 fr3
    go_wp2_with (first
      | (refine wpList_load_row rfl 37 (.tmp 2) rfl bx rfl 37 C4 (0, 0) (.struct fs) HIN4.out.own HFS.out rfl (by rw [HSZC4.out]; exact info_refA) ?_)
      | (refine wpList_store_row rfl 37 (.tmp 4) (.tmp 45) rfl bz C4 rfl rfl 37 Z HZ2.out (by rw [HSZC4.out]; exact info_refA) (by rw [HZ1.out, HSZC4.out]) HONEC4.out ?_))
    exact bodyPost_ret (v := .tuple #[.agg C4, .int .u64 0, .int .i64 24]) (by simp [results, Tryz.results71, asAddr, hld]) rfl ⟨by rw [HC4.out], HIN4.out.end_⟩
set_option maxRecDepth 100000 in
set_option maxHeartbeats 4000000 in
theorem refGet_blkin (A : Ar) (f0 f1 f2 f3 f4 f5 f6 f7 f8 : Int) (v : Value) (l : List RB) (w : World) (h : BlksAt w v l) (hl : l.length ≤ 70000) (hf : A.faults ≤ 100000000) (blk i : Int) (hne : blk ≠ 0) (j : Nat) (y : RB) (hy : l[j]? = some y) (hyk : y.1.h = blk) (hu : ∀ i z, l[i]? = some z → z.1.h = blk → i = j) (hi0 : 0 ≤ i) (hi1 : i < (y.1.ws.length : Int)) :
    Calls Tryz.prog 71 #[.agg (refCells A f0 f1 f2 f3 f4 f5 f6 f7 f8 v), .agg #[.int .u64 blk, .int .i64 i]] w fun e w' => e = .returned (.tuple #[.agg (refCells A f0 f1 f2 f3 f4 f5 f6 f7 f8 v), .int .u64 (y.1.ws.getD i.toNat 0), .int .i64 0]) ∧ Frm.Turn [] w w' := by
  obtain ⟨va, vc, rfl⟩ := h.form
  obtain ⟨fs, hfs⟩ := struct_of under_refA
  have HB := Lib.hid h
  have HY := Lib.hid hy
  have HAT := Lib.hid (fun W (hT : Frm.Turn [] w W) => refAt_yes A f0 f1 f2 f3 f4 f5 f6 f7 f8 _ l W (h.step hT) hl blk j y hy hyk hu)
  have hjq : j < l.length := (List.getElem?_eq_some_iff.1 hy).1
  obtain ⟨q, HQ⟩ : ∃ q, Hid (q = l.length) := ⟨_, Lib.hid rfl⟩
  rw [← HQ.out] at HAT hjq ⊢
  obtain ⟨CS, HCS⟩ : ∃ CS, Hid (CS = refCells A f0 f1 f2 f3 f4 f5 f6 f7 f8 (.slice va q vc)) := ⟨_, Lib.hid rfl⟩
  have HSZCS : Hid (CS.size = 20) := Lib.hid (by rw [HCS.out]; rfl)
  have HONECS : Hid (CS.all (·.oneCell') = true) := Lib.hid (by rw [HCS.out]; exact refCells_one _ _ _ _ _ _ _ _ _ _ _ _ _)
  have HFS := Lib.hid hfs
  rw [show refCells A f0 f1 f2 f3 f4 f5 f6 f7 f8 (.slice va q vc) = CS from HCS.out.symm]
  rw [← HCS.out] at HAT
  clear hy hyk hu
  clear h hfs hl
  obtain ⟨x, HX⟩ : ∃ x, Hid (x = y.1.ws.getD i.toNat 0) := ⟨_, Lib.hid rfl⟩
  rw [← HX.out]
  go_enter Tryz.func71, Tryz.ntmps71
  go_upto_region 1 with fail
  obtain ⟨hin, hbq⟩ := RefIn.start3 w CS #[.int .u64 blk, .int .i64 i] #[.int .i64 0, .int .i64 0, .int .i64 0, .int .i64 0, .int .u64 0, .int .u64 0, .int .u64 0, .int .u64 0, .int .u64 0, .int .u64 0, .int .u64 0, .int .u64 0, .int .u64 0, .slice none 0 0, .int .i64 0, .int .i64 0, .int .i64 0, .int .i64 0, .int .i64 0, .int .i64 0] rfl
  obtain ⟨bx, Hx⟩ : ∃ bx, Hid (bx = w.heap.size) := ⟨_, Lib.hid rfl⟩
  obtain ⟨bq, Hq⟩ : ∃ bq, Hid (bq = w.heap.size + 1) := ⟨_, Lib.hid rfl⟩
  obtain ⟨bz, Hz⟩ : ∃ bz, Hid (bz = w.heap.size + 2) := ⟨_, Lib.hid rfl⟩
  rw [← Hz.out, ← Hx.out] at hin
  rw [← Hq.out] at hbq
  rw [← Hz.out, ← Hq.out, ← Hx.out]
  generalize ((w.alloc (.cells CS 37)).alloc _).alloc _ = W1 at hin hbq ⊢
  have HIN := Lib.hid hin
  have HT1 := Lib.hid hin.turn
  have HBQ := Lib.hid hbq
  have a0 : W1.cell? ⟨bq, 0, none⟩ = some (.int .u64 blk) := Frm.cell_row _ _ _ _ _ _ hbq
  have a1 : W1.cell? ⟨bq, 1, none⟩ = some (.int .i64 i) := Frm.cell_row _ _ _ _ _ _ hbq
  clear hin hbq
  have hb0 : (blk != 0) = true := by simpa using hne
  have hb1 : (blk == 0) = false := by simpa using hne
  go_upto_region 4 with (first
    | (refine wpList_load_row rfl 37 (.tmp 2) rfl bx rfl 37 CS (0, 0) (.struct fs) HIN.out.own HFS.out rfl (by rw [HSZCS.out]; exact info_refA) ?_)
    | (go_at_call 114; (with_reducible refine (HAT.out _ HT1.out).mono ?_); rintro e w2 ⟨rfl, hT⟩; have HT2 := Lib.hid hT; clear hT))
  have HIN2 := Lib.hid (HIN.out.step HT2.out (by simp) (by simp) (by simp))
  have HBQ2 := Lib.hid (HT2.out.keep HBQ.out (by simp))
  clear a0 a1
  have a0 : w2.cell? ⟨bq, 0, none⟩ = some (.int .u64 blk) := Frm.cell_row _ _ _ _ _ _ HBQ2.out
  have a1 : w2.cell? ⟨bq, 1, none⟩ = some (.int .i64 i) := Frm.cell_row _ _ _ _ _ _ HBQ2.out
  obtain ⟨g, hva, hcell⟩ : ∃ g, va = some ⟨g, 0, none⟩ ∧ ∀ j u, (rbCells l)[j]? = some u → w.cell? ⟨g, j, none⟩ = some u := by
    rcases HB.out.head with ⟨_, e2⟩ | ⟨g, c', e1, _, _, hc⟩
    · have := HY.out; rw [e2] at this; simp at this
    · simp only [Value.slice.injEq] at e1
      exact ⟨g, e1.1, hc⟩
  subst hva
  have hcB := HIN2.out.turn.cell (hcell _ _ (rbCells_get l j y HY.out).2) (by simp)
  obtain ⟨ya, yc, hyf, hyw⟩ : ∃ ya yc, y.2 = .slice ya y.1.ws.length yc ∧ (0 < y.1.ws.length → ∃ ad, ya = some ad ∧ ∀ j u, (u64s y.1.ws)[j]? = some u → w.cell? (ad.add j) = some u) := by
    rcases HB.out.rows y (List.mem_of_getElem? HY.out) with ⟨e1, e2⟩ | ⟨a, c, e1, hc⟩
    · exact ⟨none, 0, by rw [e1, e2]; rfl, fun h => by rw [e2] at h; simp at h⟩
    · exact ⟨_, _, e1, fun _ => ⟨a, rfl, hc⟩⟩
  rw [hyf] at hcB
  have HYW := Lib.hid hyw
  have c13 : w2.cell? ⟨bx, 13, none⟩ = some (.slice (some ⟨g, 0, none⟩) q vc) := by rw [HIN2.out.cell, HCS.out]; rfl
  have hj0 : decide ((j : Int) < 0) = false := by simp
  have hpos : 0 < y.1.ws.length := by omega
  obtain ⟨ad, hya, hwc⟩ := hyw hpos
  subst hya
  have hmm : i.toNat < y.1.ws.length := by omega
  have hxw := hwc _ _ (word_at hmm)
  rw [← HX.out] at hxw
  have hxb := cell_blt hxw
  have HXW : Hid (w2.drew.cell? (ad.add i.toNat) = some (.int .u64 x)) := Lib.hid (HIN2.out.turn.cell hxw (by simp))
  have HXZ : Hid ((ad.add i.toNat).block ∉ [bz]) := Lib.hid (by have := HIN2.out.nz; simp; omega)
  have HQZ : Hid ((⟨bq, 1, none⟩ : Addr).block ∉ [bz]) := Lib.hid (by rw [Hq.out, Hz.out]; simp)
  clear hcell hyf hyw hwc hxw hxb hmm hpos
  obtain ⟨n, HN⟩ : ∃ n, Hid (n = y.1.ws.length) := ⟨_, Lib.hid rfl⟩
  rw [← HN.out] at hcB hi1
  obtain ⟨ws, HWS⟩ : ∃ ws, Hid (ws = y.1.ws) := ⟨_, Lib.hid rfl⟩
  have r1 : decide (i < 0) = false := by simp; omega
  have r2 : decide ((n : Int) ≤ i) = false := by simp; omega
  go_upto_region 11 with fail
  have HD2 : Hid (∃ Z : Array Value, Z.size = 20 ∧ w2.drew.heap[bz]? = some (.cells Z 37 (0, 0))) := Lib.hid HIN2.out.res
  obtain ⟨Z, z1, z2⟩ := HD2.out
  have HZ1 := Lib.hid z1
  have HZ2 := Lib.hid z2
  clear z1 z2
  have HINd : Hid (RefIn w bx bz CS w2.drew) := Lib.hid (HIN2.out.step ((Frm.Turn.refl [] w2).drew) (by simp) (by simp) (by simp))
  have hld := HINd.out.told HSZCS.out HFS.out
  have HI20 : Hid ((Tryz.prog.info? 37).map (·.size) = some CS.toList.length) := Lib.hid (by rw [Array.length_toList, HSZCS.out]; exact info_refA)
  have HS : Hid (∀ W, Frm.Turn [bz] w2.drew W → (W.rangeAt bx 0 CS.toList ∧ W.cell? ⟨bq, 1, none⟩ = some (.int .i64 i) ∧ W.cell? (ad.add i.toNat) = some (.int .u64 x))) := Lib.hid fun W hT => by
    refine ⟨fun j u hu => ?_, hT.cell a1 HQZ.out, hT.cell HXW.out HXZ.out⟩
    rw [Nat.zero_add]
    refine hT.cell ?_ (by simp; exact HIN2.out.ne)
    rw [HINd.out.cell]
    simpa using hu
  clear a0 a1
  refine wp_region_held_drew (S := fun w' => w'.rangeAt bx 0 CS.toList ∧ w'.cell? ⟨bq, 1, none⟩ = some (.int .i64 i) ∧ w'.cell? (ad.add i.toNat) = some (.int .u64 x)) (by kernel_rfl) ?_ (fun hHeld => ?_)
  · exact HS.out _ (Frm.Turn.refl _ _)
  refine wpAnyH_take (i := 0) (v := _) rfl (by kernel_rfl) (by kernel_rfl) (by kernel_rfl) (fun _ _ _ h => h)
          (yieldsIf_load_mid (by rfl) _ _ rfl bx 0 rfl CS.toList _ (fun w hw => hw.1) HFS.out rfl HI20.out) (by assumption) ?_
  simp only [Act.put, List.setIfInBounds_toArray, List.set_cons_zero, List.set_cons_succ, Array.toArray_toList]
  refine wpAnyH_take (i := 1) (v := ?_) rfl (by kernel_rfl) (by kernel_rfl) (by kernel_rfl) (fun _ _ _ h => h) (Or.inl ⟨by rfl, ?_⟩) (by assumption) ?_
  rotate_left
  · (intro w hSw; (try dsimp only at hSw); go_simp; try with_reducible rfl)
  simp only [Act.put, List.getElem_toArray, List.getElem_cons_succ, List.getElem_cons_zero, List.setIfInBounds_toArray, List.set_cons_zero, List.set_cons_succ]
  refine wpAnyH_take (i := 2) (v := ?_) rfl (by kernel_rfl) (by kernel_rfl) (by kernel_rfl) (fun _ _ _ h => h) (Or.inl ⟨by rfl, ?_⟩) (by assumption) ?_
  rotate_left
  · (intro w hSw; (try dsimp only at hSw); go_simp; try with_reducible rfl)
  simp only [Act.put, List.getElem_toArray, List.getElem_cons_succ, List.getElem_cons_zero, List.setIfInBounds_toArray, List.set_cons_zero, List.set_cons_succ]
  refine wpAnyH_take (i := 3) (v := ?_) rfl (by kernel_rfl) (by kernel_rfl) (by kernel_rfl) (fun _ _ _ h => h) (Or.inl ⟨by rfl, ?_⟩) (by assumption) ?_
  rotate_left
  · (intro w hSw; (try dsimp only at hSw); go_simp; try with_reducible rfl)
  simp only [Act.put, List.getElem_toArray, List.getElem_cons_succ, List.getElem_cons_zero, List.setIfInBounds_toArray, List.set_cons_zero, List.set_cons_succ]
  refine wpAnyH_take (i := 4) (v := ?_) rfl (by kernel_rfl) (by kernel_rfl) (by kernel_rfl) (fun _ _ _ h => h) (Or.inl ⟨by rfl, ?_⟩) (by assumption) ?_
  rotate_left
  · (intro w hSw; (try dsimp only at hSw); go_simp; try with_reducible rfl)
  simp only [Act.put, List.getElem_toArray, List.getElem_cons_succ, List.getElem_cons_zero, List.setIfInBounds_toArray, List.set_cons_zero, List.set_cons_succ]
  refine wpAnyH_take (i := 5) (v := ?_) rfl (by kernel_rfl) (by kernel_rfl) (by kernel_rfl) (fun _ _ _ h => h) (Or.inl ⟨by rfl, ?_⟩) (by assumption) ?_
  rotate_left
  · (intro w hSw; (try dsimp only at hSw); go_simp; try with_reducible rfl)
  simp only [Act.put, List.getElem_toArray, List.getElem_cons_succ, List.getElem_cons_zero, List.setIfInBounds_toArray, List.set_cons_zero, List.set_cons_succ]
  refine wpAnyH_ready (rs := [6]) (by kernel_rfl) (by simp) ?_
  refine AllReadyH.cons rfl (fun K hK => ?_) AllReadyH.nil
  simp only [List.getElem_toArray, List.getElem_cons_succ, List.getElem_cons_zero]
  refine wp_store_row 37 (.tmp 4) (.tmp 46) rfl bz CS rfl rfl 37 Z HZ2.out (by rw [HSZCS.out]; exact info_refA) (by rw [HZ1.out, HSZCS.out]) HONECS.out ?_
  refine hK _ _ (HS.out _ (setRow_turn (Frm.Turn.refl [bz] _) (.inl (by simp)) CS)) (fun hHeld => ?_)
  try simp only [Act.put, List.getElem_toArray, List.getElem_cons_succ, List.getElem_cons_zero, List.setIfInBounds_toArray, List.set_cons_zero, List.set_cons_succ]
  refine wpAnyH_take (i := 7) (v := ?_) rfl (by kernel_rfl) (by kernel_rfl) (by kernel_rfl) (fun _ _ _ h => h) (Or.inl ⟨by rfl, ?_⟩) (by assumption) ?_
  rotate_left
  · (intro w hSw; (try dsimp only at hSw); go_simp; try with_reducible rfl)
  simp only [Act.put, List.getElem_toArray, List.getElem_cons_succ, List.getElem_cons_zero, List.setIfInBounds_toArray, List.set_cons_zero, List.set_cons_succ]
  refine wpAnyH_take (i := 8) (v := ?_) rfl (by kernel_rfl) (by kernel_rfl) (by kernel_rfl) (fun _ _ _ h => h) (Or.inl ⟨by rfl, ?_⟩) (by assumption) ?_
  rotate_left
  · (intro w hSw; (try dsimp only at hSw); go_simp; try with_reducible rfl)
  simp only [Act.put, List.getElem_toArray, List.getElem_cons_succ, List.getElem_cons_zero, List.setIfInBounds_toArray, List.set_cons_zero, List.set_cons_succ]
  refine wpAnyH_done (by kernel_rfl) ?_ _
  go_wp2_with fail
  exact bodyPost_ret (v := .tuple #[.agg CS, .int .u64 x, .int .i64 0]) (by simp [results, Tryz.results71, asAddr, hld, Act.put]) rfl ⟨rfl, HINd.out.end_⟩
set_option maxRecDepth 100000 in
set_option maxHeartbeats 4000000 in
theorem refGet_fixout (A : Ar) (f0 f1 f2 f3 f4 f5 f6 f7 f8 : Int) (v : Value) (l : List RB) (w : World) (h : BlksAt w v l) (hl : l.length ≤ 70000) (hf : A.faults ≤ 100000000) (blk i : Int) (hz : blk = 0) (ho : i < 0 ∨ 9 ≤ i) :
    Calls Tryz.prog 71 #[.agg (refCells A f0 f1 f2 f3 f4 f5 f6 f7 f8 v), .agg #[.int .u64 blk, .int .i64 i]] w fun e w' => e = .returned (.tuple #[.agg (refCells A.miss f0 f1 f2 f3 f4 f5 f6 f7 f8 v), .int .u64 0, .int .i64 24]) ∧ Frm.Turn [] w w' := by
  obtain ⟨va, vc, rfl⟩ := h.form
  obtain ⟨fs, hfs⟩ := struct_of under_refA
  obtain ⟨q, HQ⟩ : ∃ q, Hid (q = l.length) := ⟨_, Lib.hid rfl⟩
  rw [← HQ.out] at ⊢
  obtain ⟨CS, HCS⟩ : ∃ CS, Hid (CS = refCells A f0 f1 f2 f3 f4 f5 f6 f7 f8 (.slice va q vc)) := ⟨_, Lib.hid rfl⟩
  have HSZCS : Hid (CS.size = 20) := Lib.hid (by rw [HCS.out]; rfl)
  have HONECS : Hid (CS.all (·.oneCell') = true) := Lib.hid (by rw [HCS.out]; exact refCells_one _ _ _ _ _ _ _ _ _ _ _ _ _)
  have HFS := Lib.hid hfs
  rw [show refCells A f0 f1 f2 f3 f4 f5 f6 f7 f8 (.slice va q vc) = CS from HCS.out.symm]
  clear h hfs hl
  have hb0 : (blk != 0) = false := by simp [hz]
  have hb1 : (blk == 0) = true := by simp [hz]
  clear hz
  go_enter Tryz.func71, Tryz.ntmps71
  go_upto_region 1 with fail
  obtain ⟨hin, hbq⟩ := RefIn.start3 w CS #[.int .u64 blk, .int .i64 i] #[.int .i64 0, .int .i64 0, .int .i64 0, .int .i64 0, .int .u64 0, .int .u64 0, .int .u64 0, .int .u64 0, .int .u64 0, .int .u64 0, .int .u64 0, .int .u64 0, .int .u64 0, .slice none 0 0, .int .i64 0, .int .i64 0, .int .i64 0, .int .i64 0, .int .i64 0, .int .i64 0] rfl
  obtain ⟨bx, Hx⟩ : ∃ bx, Hid (bx = w.heap.size) := ⟨_, Lib.hid rfl⟩
  obtain ⟨bq, Hq⟩ : ∃ bq, Hid (bq = w.heap.size + 1) := ⟨_, Lib.hid rfl⟩
  obtain ⟨bz, Hz⟩ : ∃ bz, Hid (bz = w.heap.size + 2) := ⟨_, Lib.hid rfl⟩
  rw [← Hz.out, ← Hx.out] at hin
  rw [← Hq.out] at hbq
  rw [← Hz.out, ← Hq.out, ← Hx.out]
  generalize ((w.alloc (.cells CS 37)).alloc _).alloc _ = W1 at hin hbq ⊢
  have HIN := Lib.hid hin
  have HT1 := Lib.hid hin.turn
  have HBQ := Lib.hid hbq
  have a0 : W1.cell? ⟨bq, 0, none⟩ = some (.int .u64 blk) := Frm.cell_row _ _ _ _ _ _ hbq
  have a1 : W1.cell? ⟨bq, 1, none⟩ = some (.int .i64 i) := Frm.cell_row _ _ _ _ _ _ hbq
  clear hin hbq
  obtain ⟨w2, Hw2⟩ : ∃ w2, Hid (w2 = W1) := ⟨_, Lib.hid rfl⟩
  rw [← Hw2.out] at HIN HT1 HBQ a0 a1 ⊢
  have HIN2 := Lib.hid HIN.out
  have r1 : decide (i < 0) = true ∨ (decide (i < 0) = false ∧ decide ((9 : Int) ≤ i) = true) := by simp; omega
  clear ho
  rcases r1 with r1 | ⟨r1, r2⟩
  · have c3 : w2.cell? ⟨bx, 3, none⟩ = some (.int .i64 A.faults) := by rw [HIN2.out.cell, HCS.out]; rfl
    have fr3 := HIN2.out.thaw 3
    go_upto_region 10 with fail
    have hin4 := HIN2.out.set 3 (.int .i64 ((A.faults : Int) + 1))
    generalize w2.setCell ⟨bx, 3, none⟩ (.int .i64 ((A.faults : Int) + 1)) = W4 at hin4 ⊢
    rw [HCS.out, miss_cells] at hin4
    obtain ⟨C4, HC4⟩ : ∃ C, Hid (C = refCells A.miss f0 f1 f2 f3 f4 f5 f6 f7 f8 (.slice va q vc)) := ⟨_, Lib.hid rfl⟩
    have HSZC4 : Hid (C4.size = 20) := Lib.hid (by rw [HC4.out]; rfl)
    have HONEC4 : Hid (C4.all (·.oneCell') = true) := Lib.hid (by rw [HC4.out]; exact refCells_one _ _ _ _ _ _ _ _ _ _ _ _ _)
    rw [← HC4.out] at hin4
    obtain ⟨Z, z1, z2⟩ := hin4.res
    have HZ1 := Lib.hid z1
    have HZ2 := Lib.hid z2
    have hld := hin4.told HSZC4.out HFS.out
    have HIN4 := Lib.hid hin4
    clear hin4 z1 z2 c3 fr3
    go_wp2_with (first
      | (refine wpList_load_row rfl 37 (.tmp 2) rfl bx rfl 37 C4 (0, 0) (.struct fs) HIN4.out.own HFS.out rfl (by rw [HSZC4.out]; exact info_refA) ?_)
      | (refine wpList_store_row rfl 37 (.tmp 4) (.tmp 45) rfl bz C4 rfl rfl 37 Z HZ2.out (by rw [HSZC4.out]; exact info_refA) (by rw [HZ1.out, HSZC4.out]) HONEC4.out ?_))
    exact bodyPost_ret (v := .tuple #[.agg C4, .int .u64 0, .int .i64 24]) (by simp [results, Tryz.results71, asAddr, hld]) rfl ⟨by rw [HC4.out], HIN4.out.end_⟩
  · have c3 : w2.cell? ⟨bx, 3, none⟩ = some (.int .i64 A.faults) := by rw [HIN2.out.cell, HCS.out]; rfl
    have fr3 := HIN2.out.thaw 3
    go_upto_region 10 with fail
    have hin4 := HIN2.out.set 3 (.int .i64 ((A.faults : Int) + 1))
    generalize w2.setCell ⟨bx, 3, none⟩ (.int .i64 ((A.faults : Int) + 1)) = W4 at hin4 ⊢
    rw [HCS.out, miss_cells] at hin4
    obtain ⟨C4, HC4⟩ : ∃ C, Hid (C = refCells A.miss f0 f1 f2 f3 f4 f5 f6 f7 f8 (.slice va q vc)) := ⟨_, Lib.hid rfl⟩
    have HSZC4 : Hid (C4.size = 20) := Lib.hid (by rw [HC4.out]; rfl)
    have HONEC4 : Hid (C4.all (·.oneCell') = true) := Lib.hid (by rw [HC4.out]; exact refCells_one _ _ _ _ _ _ _ _ _ _ _ _ _)
    rw [← HC4.out] at hin4
    obtain ⟨Z, z1, z2⟩ := hin4.res
    have HZ1 := Lib.hid z1
    have HZ2 := Lib.hid z2
    have hld := hin4.told HSZC4.out HFS.out
    have HIN4 := Lib.hid hin4
    clear hin4 z1 z2 c3 fr3
    go_wp2_with (first
      | (refine wpList_load_row rfl 37 (.tmp 2) rfl bx rfl 37 C4 (0, 0) (.struct fs) HIN4.out.own HFS.out rfl (by rw [HSZC4.out]; exact info_refA) ?_)
      | (refine wpList_store_row rfl 37 (.tmp 4) (.tmp 45) rfl bz C4 rfl rfl 37 Z HZ2.out (by rw [HSZC4.out]; exact info_refA) (by rw [HZ1.out, HSZC4.out]) HONEC4.out ?_))
    exact bodyPost_ret (v := .tuple #[.agg C4, .int .u64 0, .int .i64 24]) (by simp [results, Tryz.results71, asAddr, hld]) rfl ⟨by rw [HC4.out], HIN4.out.end_⟩
set_option maxRecDepth 100000 in
set_option maxHeartbeats 4000000 in
theorem refGet_fixin (A : Ar) (f0 f1 f2 f3 f4 f5 f6 f7 f8 : Int) (v : Value) (l : List RB) (w : World) (h : BlksAt w v l) (hl : l.length ≤ 70000) (hf : A.faults ≤ 100000000) (blk i : Int) (hz : blk = 0) (hi0 : 0 ≤ i) (hi1 : i < 9) :
    Calls Tryz.prog 71 #[.agg (refCells A f0 f1 f2 f3 f4 f5 f6 f7 f8 v), .agg #[.int .u64 blk, .int .i64 i]] w fun e w' => e = .returned (.tuple #[.agg (refCells A f0 f1 f2 f3 f4 f5 f6 f7 f8 v), .int .u64 ([f0, f1, f2, f3, f4, f5, f6, f7, f8].getD i.toNat 0), .int .i64 0]) ∧ Frm.Turn [] w w' := by
  obtain ⟨va, vc, rfl⟩ := h.form
  obtain ⟨fs, hfs⟩ := struct_of under_refA
  obtain ⟨q, HQ⟩ : ∃ q, Hid (q = l.length) := ⟨_, Lib.hid rfl⟩
  rw [← HQ.out] at ⊢
  obtain ⟨CS, HCS⟩ : ∃ CS, Hid (CS = refCells A f0 f1 f2 f3 f4 f5 f6 f7 f8 (.slice va q vc)) := ⟨_, Lib.hid rfl⟩
  have HSZCS : Hid (CS.size = 20) := Lib.hid (by rw [HCS.out]; rfl)
  have HONECS : Hid (CS.all (·.oneCell') = true) := Lib.hid (by rw [HCS.out]; exact refCells_one _ _ _ _ _ _ _ _ _ _ _ _ _)
  have HFS := Lib.hid hfs
  rw [show refCells A f0 f1 f2 f3 f4 f5 f6 f7 f8 (.slice va q vc) = CS from HCS.out.symm]
  clear h hfs hl
  obtain ⟨x, HX⟩ : ∃ x, Hid (x = [f0, f1, f2, f3, f4, f5, f6, f7, f8].getD i.toNat 0) := ⟨_, Lib.hid rfl⟩
  rw [← HX.out]
  have hb0 : (blk != 0) = false := by simp [hz]
  have hb1 : (blk == 0) = true := by simp [hz]
  clear hz
  go_enter Tryz.func71, Tryz.ntmps71
  go_upto_region 1 with fail
  obtain ⟨hin, hbq⟩ := RefIn.start3 w CS #[.int .u64 blk, .int .i64 i] #[.int .i64 0, .int .i64 0, .int .i64 0, .int .i64 0, .int .u64 0, .int .u64 0, .int .u64 0, .int .u64 0, .int .u64 0, .int .u64 0, .int .u64 0, .int .u64 0, .int .u64 0, .slice none 0 0, .int .i64 0, .int .i64 0, .int .i64 0, .int .i64 0, .int .i64 0, .int .i64 0] rfl
  obtain ⟨bx, Hx⟩ : ∃ bx, Hid (bx = w.heap.size) := ⟨_, Lib.hid rfl⟩
  obtain ⟨bq, Hq⟩ : ∃ bq, Hid (bq = w.heap.size + 1) := ⟨_, Lib.hid rfl⟩
  obtain ⟨bz, Hz⟩ : ∃ bz, Hid (bz = w.heap.size + 2) := ⟨_, Lib.hid rfl⟩
  rw [← Hz.out, ← Hx.out] at hin
  rw [← Hq.out] at hbq
  rw [← Hz.out, ← Hq.out, ← Hx.out]
  generalize ((w.alloc (.cells CS 37)).alloc _).alloc _ = W1 at hin hbq ⊢
  have HIN := Lib.hid hin
  have HT1 := Lib.hid hin.turn
  have HBQ := Lib.hid hbq
  have a0 : W1.cell? ⟨bq, 0, none⟩ = some (.int .u64 blk) := Frm.cell_row _ _ _ _ _ _ hbq
  have a1 : W1.cell? ⟨bq, 1, none⟩ = some (.int .i64 i) := Frm.cell_row _ _ _ _ _ _ hbq
  clear hin hbq
  obtain ⟨w2, Hw2⟩ : ∃ w2, Hid (w2 = W1) := ⟨_, Lib.hid rfl⟩
  rw [← Hw2.out] at HIN HT1 HBQ a0 a1 ⊢
  have HIN2 := Lib.hid HIN.out
  have r1 : decide (i < 0) = false := by simp; omega
  have r2 : decide ((9 : Int) ≤ i) = false := by simp; omega
  have HXW : Hid (w2.drew.cell? ⟨bx, 4 + i.toNat, none⟩ = some (.int .u64 x)) := Lib.hid (by
    show w2.cell? ⟨bx, 4 + i.toNat, none⟩ = some (.int .u64 x)
    rw [HIN2.out.cell, HCS.out, HX.out]
    exact fix_cell A f0 f1 f2 f3 f4 f5 f6 f7 f8 _ _ _ (word_at (by simp; omega)))
  have HXZ : Hid ((⟨bx, 4 + i.toNat, none⟩ : Addr).block ∉ [bz]) := Lib.hid (by simp; exact HIN2.out.ne)
  have HQZ : Hid ((⟨bq, 1, none⟩ : Addr).block ∉ [bz]) := Lib.hid (by rw [Hq.out, Hz.out]; simp)
  go_upto_region 11 with fail
  have HD2 : Hid (∃ Z : Array Value, Z.size = 20 ∧ w2.drew.heap[bz]? = some (.cells Z 37 (0, 0))) := Lib.hid HIN2.out.res
  obtain ⟨Z, z1, z2⟩ := HD2.out
  have HZ1 := Lib.hid z1
  have HZ2 := Lib.hid z2
  clear z1 z2
  have HINd : Hid (RefIn w bx bz CS w2.drew) := Lib.hid (HIN2.out.step ((Frm.Turn.refl [] w2).drew) (by simp) (by simp) (by simp))
  have hld := HINd.out.told HSZCS.out HFS.out
  have HI20 : Hid ((Tryz.prog.info? 37).map (·.size) = some CS.toList.length) := Lib.hid (by rw [Array.length_toList, HSZCS.out]; exact info_refA)
  have HS : Hid (∀ W, Frm.Turn [bz] w2.drew W → (W.rangeAt bx 0 CS.toList ∧ W.cell? ⟨bq, 1, none⟩ = some (.int .i64 i) ∧ W.cell? (⟨bx, 4 + i.toNat, none⟩) = some (.int .u64 x))) := Lib.hid fun W hT => by
    refine ⟨fun j u hu => ?_, hT.cell a1 HQZ.out, hT.cell HXW.out HXZ.out⟩
    rw [Nat.zero_add]
    refine hT.cell ?_ (by simp; exact HIN2.out.ne)
    rw [HINd.out.cell]
    simpa using hu
  clear a0 a1
  refine wp_region_held_drew (S := fun w' => w'.rangeAt bx 0 CS.toList ∧ w'.cell? ⟨bq, 1, none⟩ = some (.int .i64 i) ∧ w'.cell? (⟨bx, 4 + i.toNat, none⟩) = some (.int .u64 x)) (by kernel_rfl) ?_ (fun hHeld => ?_)
  · exact HS.out _ (Frm.Turn.refl _ _)
  refine wpAnyH_take (i := 0) (v := _) rfl (by kernel_rfl) (by kernel_rfl) (by kernel_rfl) (fun _ _ _ h => h)
          (yieldsIf_load_mid (by rfl) _ _ rfl bx 0 rfl CS.toList _ (fun w hw => hw.1) HFS.out rfl HI20.out) (by assumption) ?_
  simp only [Act.put, List.setIfInBounds_toArray, List.set_cons_zero, List.set_cons_succ, Array.toArray_toList]
  refine wpAnyH_take (i := 1) (v := ?_) rfl (by kernel_rfl) (by kernel_rfl) (by kernel_rfl) (fun _ _ _ h => h) (Or.inl ⟨by rfl, ?_⟩) (by assumption) ?_
  rotate_left
  · (intro w hSw; (try dsimp only at hSw); go_simp; try with_reducible rfl)
  simp only [Act.put, List.getElem_toArray, List.getElem_cons_succ, List.getElem_cons_zero, List.setIfInBounds_toArray, List.set_cons_zero, List.set_cons_succ]
  refine wpAnyH_take (i := 2) (v := ?_) rfl (by kernel_rfl) (by kernel_rfl) (by kernel_rfl) (fun _ _ _ h => h) (Or.inl ⟨by rfl, ?_⟩) (by assumption) ?_
  rotate_left
  · (intro w hSw; (try dsimp only at hSw); go_simp; try with_reducible rfl)
  simp only [Act.put, List.getElem_toArray, List.getElem_cons_succ, List.getElem_cons_zero, List.setIfInBounds_toArray, List.set_cons_zero, List.set_cons_succ]
  refine wpAnyH_take (i := 3) (v := ?_) rfl (by kernel_rfl) (by kernel_rfl) (by kernel_rfl) (fun _ _ _ h => h) (Or.inl ⟨by rfl, ?_⟩) (by assumption) ?_
  rotate_left
  · (intro w hSw; (try dsimp only at hSw); go_simp; try with_reducible rfl)
  simp only [Act.put, List.getElem_toArray, List.getElem_cons_succ, List.getElem_cons_zero, List.setIfInBounds_toArray, List.set_cons_zero, List.set_cons_succ]
  refine wpAnyH_take (i := 4) (v := ?_) rfl (by kernel_rfl) (by kernel_rfl) (by kernel_rfl) (fun _ _ _ h => h) (Or.inl ⟨by rfl, ?_⟩) (by assumption) ?_
  rotate_left
  · (intro w hSw; (try dsimp only at hSw); go_simp; try with_reducible rfl)
  simp only [Act.put, List.getElem_toArray, List.getElem_cons_succ, List.getElem_cons_zero, List.setIfInBounds_toArray, List.set_cons_zero, List.set_cons_succ]
  refine wpAnyH_take (i := 5) (v := ?_) rfl (by kernel_rfl) (by kernel_rfl) (by kernel_rfl) (fun _ _ _ h => h) (Or.inl ⟨by rfl, ?_⟩) (by assumption) ?_
  rotate_left
  · (intro w hSw; (try dsimp only at hSw); go_simp; try with_reducible rfl)
  simp only [Act.put, List.getElem_toArray, List.getElem_cons_succ, List.getElem_cons_zero, List.setIfInBounds_toArray, List.set_cons_zero, List.set_cons_succ]
  refine wpAnyH_ready (rs := [6]) (by kernel_rfl) (by simp) ?_
  refine AllReadyH.cons rfl (fun K hK => ?_) AllReadyH.nil
  simp only [List.getElem_toArray, List.getElem_cons_succ, List.getElem_cons_zero]
  refine wp_store_row 37 (.tmp 4) (.tmp 46) rfl bz CS rfl rfl 37 Z HZ2.out (by rw [HSZCS.out]; exact info_refA) (by rw [HZ1.out, HSZCS.out]) HONECS.out ?_
  refine hK _ _ (HS.out _ (setRow_turn (Frm.Turn.refl [bz] _) (.inl (by simp)) CS)) (fun hHeld => ?_)
  try simp only [Act.put, List.getElem_toArray, List.getElem_cons_succ, List.getElem_cons_zero, List.setIfInBounds_toArray, List.set_cons_zero, List.set_cons_succ]
  refine wpAnyH_take (i := 7) (v := ?_) rfl (by kernel_rfl) (by kernel_rfl) (by kernel_rfl) (fun _ _ _ h => h) (Or.inl ⟨by rfl, ?_⟩) (by assumption) ?_
  rotate_left
  · (intro w hSw; (try dsimp only at hSw); go_simp; try with_reducible rfl)
  simp only [Act.put, List.getElem_toArray, List.getElem_cons_succ, List.getElem_cons_zero, List.setIfInBounds_toArray, List.set_cons_zero, List.set_cons_succ]
  refine wpAnyH_take (i := 8) (v := ?_) rfl (by kernel_rfl) (by kernel_rfl) (by kernel_rfl) (fun _ _ _ h => h) (Or.inl ⟨by rfl, ?_⟩) (by assumption) ?_
  rotate_left
  · (intro w hSw; (try dsimp only at hSw); go_simp; try with_reducible rfl)
  simp only [Act.put, List.getElem_toArray, List.getElem_cons_succ, List.getElem_cons_zero, List.setIfInBounds_toArray, List.set_cons_zero, List.set_cons_succ]
  refine wpAnyH_done (by kernel_rfl) ?_ _
  go_wp2_with fail
  exact bodyPost_ret (v := .tuple #[.agg CS, .int .u64 x, .int .i64 0]) (by simp [results, Tryz.results71, asAddr, hld, Act.put]) rfl ⟨rfl, HINd.out.end_⟩
end Arn
end Go.Proofs.YtpajafecodkndaaGreat
