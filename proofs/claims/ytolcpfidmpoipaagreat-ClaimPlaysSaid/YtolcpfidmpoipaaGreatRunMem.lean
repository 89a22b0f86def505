/- The document's claim, in memory: what it has got and its result lie beside the environment. -/
import Derived.Test.YtolcpfidmpoipaaGreatSegWalk
set_option linter.unusedVariables false
set_option linter.unusedSimpArgs false
namespace Go.Proofs.YtolcpfidmpoipaaGreat
namespace Evn
open Go.RowKit Go.Maps Arn Clm

def gotAll (sg s : Int) (own : Bool) (ld er : Int) : Array Value := #[.int .u64 sg, .int .i64 s, .bool own, .int .u64 ld, .int .i64 er]
structure RunAt (W0 : World) (lv0 : Value) (G0 : List Nat) (eb gb rb : Nat) (P : En) (sg s : Int) (own : Bool) (ld er : Int) (W : World) : Prop where
  env : ∃ CS lv G, EnAt W eb P CS lv G ∧ (∀ k, k = gb ∨ k = rb → k ∉ G ∧ lv.ownBlock ≠ some k) ∧ (∀ k, k ∈ G → k ∈ G0 ∨ W0.heap.size ≤ k) ∧ ∀ k, lv.ownBlock = some k → lv0.ownBlock = some k ∨ W0.heap.size ≤ k
  turn : Frm.Turn [eb] W0 W
  got : W.heap[gb]? = some (.cells (gotAll sg s own ld er) 56 (0, 0))
  res : W.heap[rb]? = some (.cells (gotAll 0 0 false 0 0) 56 (0, 0))
  new : W0.heap.size ≤ gb ∧ W0.heap.size ≤ rb ∧ eb < W0.heap.size ∧ gb ≠ rb
variable {W0 W W' : World} {lv0 : Value} {G0 : List Nat} {eb gb rb : Nat} {P P' : En} {sg s ld er : Int} {own : Bool}
theorem RunAt.step (h : RunAt W0 lv0 G0 eb gb rb P sg s own ld er W) (ht : Frm.Turn [] W W') : RunAt W0 lv0 G0 eb gb rb P sg s own ld er W' := by
  obtain ⟨⟨CS, lv, G, h1, h2, h3, h4⟩, h5, h6, h7, h9⟩ := h
  exact ⟨⟨CS, lv, G, h1.step ht, h2, h3, h4⟩, h5.trans ht (by simp), ht.keep h6 (by simp), ht.keep h7 (by simp), h9⟩
/-- An access, or several. -/
theorem RunAt.go (h : RunAt W0 lv0 G0 eb gb rb P sg s own ld er W) {w' : World} {lv : Value} {G : List Nat} (h2 : ∀ k, k = gb ∨ k = rb → k ∉ G ∧ lv.ownBlock ≠ some k) (h3 : ∀ k, k ∈ G → k ∈ G0 ∨ W0.heap.size ≤ k) (h4 : ∀ k, lv.ownBlock = some k → lv0.ownBlock = some k ∨ W0.heap.size ≤ k)
    (he : ∃ CS' lv' G', EnAt w' eb P' CS' lv' G' ∧ (∀ k, k ∈ G' → k ∈ G ∨ W.heap.size ≤ k) ∧ ∀ k, lv'.ownBlock = some k → lv.ownBlock = some k ∨ W.heap.size ≤ k) (e2 : Frm.Turn [eb] W w') :
    RunAt W0 lv0 G0 eb gb rb P' sg s own ld er w' := by
  obtain ⟨_, h5, h6, h7, h9⟩ := h
  obtain ⟨CS', lv', G', e1, e3, e4⟩ := he
  have hz := h5.size
  have hb : ∀ k, k = gb ∨ k = rb → k < W.heap.size ∧ k ≠ eb := by
    have b1 := (Array.getElem?_eq_some_iff.1 h6).1
    have b2 := (Array.getElem?_eq_some_iff.1 h7).1
    intro k hk
    omega
  have hk : ∀ k, k = gb ∨ k = rb → k ∉ [eb] := fun k hk => by simpa using (hb k hk).2
  refine ⟨⟨CS', lv', G', e1, fun k hk => ⟨fun hg => ?_, fun hl => ?_⟩, fun k hg => ?_, fun k hl => ?_⟩, h5.trans e2 (fun k hk => .inl hk), e2.keep h6 (hk _ (.inl rfl)), e2.keep h7 (hk _ (.inr rfl)), h9⟩
  · rcases e3 k hg with h | h
    · exact (h2 k hk).1 h
    · have := (hb k hk).1; omega
  · rcases e4 k hl with h | h
    · exact (h2 k hk).2 h
    · have := (hb k hk).1; omega
  · rcases e3 k hg with h | h
    · exact h3 k h
    · exact .inr (by omega)
  · rcases e4 k hl with h | h
    · exact h4 k h
    · exact .inr (by omega)
/-- What it has got is written. -/
theorem RunAt.put (h : RunAt W0 lv0 G0 eb gb rb P sg s own ld er W) (j : Nat) (v : Value) {sg' s' : Int} {own' : Bool} {ld' er' : Int} (hv : (gotAll sg s own ld er).setIfInBounds j v = gotAll sg' s' own' ld' er') : RunAt W0 lv0 G0 eb gb rb P sg' s' own' ld' er' (W.setCell ⟨gb, j, none⟩ v) := by
  obtain ⟨⟨CS, lv, G, h1, h2, h3, h4⟩, h5, h6, h7, h9⟩ := h
  have hT : Frm.Turn [gb] W (W.setCell ⟨gb, j, none⟩ v) := (Frm.Turn.refl [gb] W).setCell (p := ⟨gb, j, none⟩) (.inl (by simp)) v
  have hl := h1.lt
  refine ⟨⟨CS, lv, G, h1.turn hT (by simp; omega) (fun k hk e => by simp at e; subst e; exact (h2 _ (.inl rfl)).1 hk) (fun k hk e => by simp at e; subst e; exact (h2 _ (.inl rfl)).2 hk), h2, h3, h4⟩, h5.trans hT (fun k hk => .inr (by simp at hk; omega)), ?_, hT.keep h7 (by simp; omega), h9⟩
  rw [Frm.heap_set _ _ _ _ _ _ _ h6, hv]
theorem RunAt.put5 (h : RunAt W0 lv0 G0 eb gb rb P sg s own ld er W) (sg' s' : Int) (own' : Bool) (ld' er' : Int) : RunAt W0 lv0 G0 eb gb rb P sg' s' own' ld' er' (((((W.setCell ⟨gb, 0, none⟩ (.int .u64 sg')).setCell ⟨gb, 1, none⟩ (.int .i64 s')).setCell ⟨gb, 2, none⟩ (.bool own')).setCell ⟨gb, 3, none⟩ (.int .u64 ld')).setCell ⟨gb, 4, none⟩ (.int .i64 er')) :=
  ((((h.put 0 (.int .u64 sg') (sg' := sg') (s' := s) (own' := own) (ld' := ld) (er' := er) rfl).put 1 (.int .i64 s') (sg' := sg') (s' := s') (own' := own) (ld' := ld) (er' := er) rfl).put 2 (.bool own') (sg' := sg') (s' := s') (own' := own') (ld' := ld) (er' := er) rfl).put 3 (.int .u64 ld') (sg' := sg') (s' := s') (own' := own') (ld' := ld') (er' := er) rfl).put 4 (.int .i64 er') rfl
theorem RunAt.cells (h : RunAt W0 lv0 G0 eb gb rb P sg s own ld er W) :
    (W.cell? ⟨gb, 0, none⟩ = some (.int .u64 sg) ∧ W.cell? ⟨gb, 1, none⟩ = some (.int .i64 s) ∧ W.cell? ⟨gb, 2, none⟩ = some (.bool own) ∧ W.cell? ⟨gb, 3, none⟩ = some (.int .u64 ld) ∧ W.cell? ⟨gb, 4, none⟩ = some (.int .i64 er)) ∧
    (W.cell? ⟨rb, 0, none⟩ = some (.int .u64 0) ∧ W.cell? ⟨rb, 1, none⟩ = some (.int .i64 0) ∧ W.cell? ⟨rb, 2, none⟩ = some (.bool false) ∧ W.cell? ⟨rb, 3, none⟩ = some (.int .u64 0) ∧ W.cell? ⟨rb, 4, none⟩ = some (.int .i64 0)) ∧ W.cell? ⟨eb, 23, none⟩ = some (.bool P.stop) ∧
    (∀ j, W.frozen? ⟨gb, j, none⟩ = false) ∧ (∀ j, W.frozen? ⟨rb, j, none⟩ = false) := by
  obtain ⟨⟨CS, lv, G, h1, h2, h3, h4⟩, h5, h6, h7, h9⟩ := h
  exact ⟨⟨(Frm.cell_row _ _ 0 _ _ _ h6).trans rfl, (Frm.cell_row _ _ 1 _ _ _ h6).trans rfl, (Frm.cell_row _ _ 2 _ _ _ h6).trans rfl, (Frm.cell_row _ _ 3 _ _ _ h6).trans rfl, (Frm.cell_row _ _ 4 _ _ _ h6).trans rfl⟩, ⟨(Frm.cell_row _ _ 0 _ _ _ h7).trans rfl, (Frm.cell_row _ _ 1 _ _ _ h7).trans rfl, (Frm.cell_row _ _ 2 _ _ _ h7).trans rfl, (Frm.cell_row _ _ 3 _ _ _ h7).trans rfl, (Frm.cell_row _ _ 4 _ _ _ h7).trans rfl⟩, h1.cells.2.2.2, fun j => Frm.frozen_row _ _ _ _ _ h6, fun j => Frm.frozen_row _ _ _ _ _ h7⟩
variable {tok : Int} {A A' : Ar} {L : List Res} {r : Res} {i n g : Nat}
/-- The segment, from what a claim has got. -/
theorem run_segment (R : Goes tok A A' L r) (h : RunAt W0 lv0 G0 eb gb rb (plcE A A' L r i) sg n false 0 0 W) (hi : i ≤ L.length + 1) (hs : (clAt tok L r i).st = 1) (hsl : (clAt tok L r i).slot = n) (hg : sgN n = g) :
    Calls Tryz.prog 30 #[.pointer (some ⟨eb, 0, none⟩), .int .i64 g, .agg (gotAll sg n false 0 0)] W fun e w' => ∃ (j : Nat) (sg' ld er : Int), i ≤ j ∧ e = .returned (.agg (gotAll sg' n false ld er)) ∧ SegOk tok L r n j sg' ld er ∧ RunAt W0 lv0 G0 eb gb rb (plcE A A' L r j) sg n false 0 0 w' := by
  obtain ⟨CS, lv, G, h1, h2, h3, h4⟩ := h.env
  refine (segment_any i (Nat.le_refl i) R h1 hi hs n g hsl hg sg).mono ?_
  rintro e w' ⟨j, sg', ld', er', hij, rfl, hok, hE, hT⟩
  exact ⟨j, sg', ld', er', hij, rfl, hok, h.go h2 h3 h4 hE hT⟩
/-- The swap of a claim. -/
theorem run_swap (R : Goes tok A A' L r) (h : RunAt W0 lv0 G0 eb gb rb (plcE A A' L r i) sg n own ld er W) (hi : i ≤ L.length + 1) (hs : (clAt tok L r i).st = 5) (hsl : (clAt tok L r i).slot = n) (hsg : (clAt tok L r i).seg = sg) :
    Calls Tryz.prog 31 #[.pointer (some ⟨eb, 0, none⟩), .agg #[.int .u64 sg, .int .i64 (5 * (ofN n : Int))], .int .u64 0, .int .u64 tok] W fun e w' => e = .returned (.bool (ansE L r i).ok) ∧ RunAt W0 lv0 G0 eb gb rb (plcE A A' L r (i + 1)) sg n own ld er w' := by
  obtain ⟨CS, lv, G, h1, h2, h3, h4⟩ := h.env
  refine (swap_pos h1 R.few R.lA R.lA' hi sg (5 * (ofN n : Int)) 0 tok fun e => ?_).mono ?_
  · have := R.at_ e
    unfold Cl.acc at this
    have ht := (clAt_way (L := L) (r := r) R.tk i).tk
    rw [if_neg (by omega), if_neg (by omega), if_neg (by omega), if_neg (by omega), if_pos hs, hsl, hsg, ht] at this
    exact this
  · rintro e w' ⟨rfl, CS', lv', G', e1, e2, e3, e4⟩
    exact ⟨rfl, h.go h2 h3 h4 ⟨CS', lv', G', e1, e3, e4⟩ e2⟩
/-- What a claim ends with. -/
def RunOk (tok : Int) (L : List Res) (r : Res) (j : Nat) (sg s : Int) (own : Bool) (ld er : Int) : Prop :=
  (j = L.length + 2 ∧ (clAt tok L r (L.length + 1)).st ≠ 0 ∧ (clAt tok L r (L.length + 1)).laid = ld ∧ own = false ∧ er = 0) ∨
  (j ≤ L.length + 1 ∧ (clAt tok L r j).st = 0 ∧ (clAt tok L r j).own = own ∧ (clAt tok L r j).laid = ld ∧ (clAt tok L r j).err = er ∧ (own = true → (clAt tok L r j).seg = sg ∧ ((clAt tok L r j).slot : Int) = s))
def RunPost (tok : Int) (A A' : Ar) (L : List Res) (r : Res) (W0 : World) (lv0 : Value) (G0 : List Nat) (eb : Nat) (e : Ending) (w : World) : Prop :=
  ∃ (j : Nat) (sg s : Int) (own : Bool) (ld er : Int), e = .returned (.agg (gotAll sg s own ld er)) ∧ RunOk tok L r j sg s own ld er ∧ (∃ CS lv G, EnAt w eb (plcE A A' L r j) CS lv G ∧ (∀ k, k ∈ G → k ∈ G0 ∨ W0.heap.size ≤ k) ∧ ∀ k, lv.ownBlock = some k → lv0.ownBlock = some k ∨ W0.heap.size ≤ k) ∧ Frm.Turn [eb] W0 w

set_option maxRecDepth 100000 in
theorem RunAt.out {j : Nat} (h : RunAt W0 lv0 G0 eb gb rb (plcE A A' L r j) sg s own ld er W) (hok : RunOk tok L r j sg s own ld er) :
    (loadVar 56 ⟨rb, 0, none⟩).run Tryz.prog (((((W.setCell ⟨rb, 0, none⟩ (.int .u64 sg)).setCell ⟨rb, 1, none⟩ (.int .i64 s)).setCell ⟨rb, 2, none⟩ (.bool own)).setCell ⟨rb, 3, none⟩ (.int .u64 ld)).setCell ⟨rb, 4, none⟩ (.int .i64 er)) = .ok (.agg (gotAll sg s own ld er)) (((((W.setCell ⟨rb, 0, none⟩ (.int .u64 sg)).setCell ⟨rb, 1, none⟩ (.int .i64 s)).setCell ⟨rb, 2, none⟩ (.bool own)).setCell ⟨rb, 3, none⟩ (.int .u64 ld)).setCell ⟨rb, 4, none⟩ (.int .i64 er)) ∧
    RunPost tok A A' L r W0 lv0 G0 eb (.returned (.agg (gotAll sg s own ld er))) (((((W.setCell ⟨rb, 0, none⟩ (.int .u64 sg)).setCell ⟨rb, 1, none⟩ (.int .i64 s)).setCell ⟨rb, 2, none⟩ (.bool own)).setCell ⟨rb, 3, none⟩ (.int .u64 ld)).setCell ⟨rb, 4, none⟩ (.int .i64 er)) := by
  obtain ⟨⟨CS, lv, G, h1, h2, h3, h4⟩, h5, h6, h7, h9⟩ := h
  have hl := h1.lt
  obtain ⟨p1, p2⟩ := Evn.put5 W rb _ _ _ _ _ (.int .u64 sg) (.int .i64 s) (.bool own) (.int .u64 ld) (.int .i64 er) 56 (show W.heap[rb]? = some (.cells #[.int .u64 0, .int .i64 0, .bool false, .int .u64 0, .int .i64 0] 56 (0, 0)) from h7)
  obtain ⟨fs, hfs⟩ := struct_of under_got
  refine ⟨run_loadVar_row _ rb _ _ (gotAll sg s own ld er) (0, 0) (.struct fs) p1 hfs rfl info_got, j, sg, s, own, ld, er, rfl, hok, ⟨CS, lv, G, h1.turn p2 (by simp; omega) (fun k hk e => by simp at e; subst e; exact (h2 _ (.inr rfl)).1 hk) (fun k hk e => by simp at e; subst e; exact (h2 _ (.inr rfl)).2 hk), h3, h4⟩, h5.trans p2 (fun k hk => .inr (by simp at hk; omega))⟩
theorem RunAt.cnt (h : RunAt W0 lv0 G0 eb gb rb P sg s own ld er W) : cntE eb W = P.at_ := by
  obtain ⟨⟨CS, lv, G, h1, _⟩, _⟩ := h
  unfold cntE
  rw [h1.cells.2.1]
  simp
end Evn
end Go.Proofs.YtolcpfidmpoipaaGreat
