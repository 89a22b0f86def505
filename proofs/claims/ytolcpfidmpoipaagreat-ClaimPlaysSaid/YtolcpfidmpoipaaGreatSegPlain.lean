/- The document's segment, in memory: what it has got, its result and its address lie beside the environment. -/
/- The document's segment: its accesses in the states of a claim. -/
import Derived.Test.YtolcpfidmpoipaaGreatEnvPos
import Derived.Test.YtolcpfidmpoipaaGreatEnvTie
set_option linter.unusedVariables false
set_option linter.unusedSimpArgs false
namespace Go.Proofs.YtolcpfidmpoipaaGreat
namespace Evn
open Go.RowKit Go.Maps Arn

def gotCells (sg s ld er : Int) : Array Value := #[.int .u64 sg, .int .i64 s, .bool false, .int .u64 ld, .int .i64 er]
structure SegAt (W0 : World) (lv0 : Value) (G0 : List Nat) (eb gb rb xb : Nat) (P : En) (sg s ld er g : Int) (W : World) : Prop where
  env : ∃ CS lv G, EnAt W eb P CS lv G ∧ (∀ k, k = gb ∨ k = rb ∨ k = xb → k ∉ G ∧ lv.ownBlock ≠ some k) ∧ (∀ k, k ∈ G → k ∈ G0 ∨ W0.heap.size ≤ k) ∧ ∀ k, lv.ownBlock = some k → lv0.ownBlock = some k ∨ W0.heap.size ≤ k
  turn : Frm.Turn [eb] W0 W
  got : W.heap[gb]? = some (.cells (gotCells sg s ld er) 56 (0, 0))
  res : W.heap[rb]? = some (.cells (gotCells 0 0 0 0) 56 (0, 0))
  loc : W.heap[xb]? = some (.cells #[.int .u64 0, .int .i64 (1 + g)] 50 (0, 0))
  new : W0.heap.size ≤ gb ∧ W0.heap.size ≤ rb ∧ W0.heap.size ≤ xb ∧ eb < W0.heap.size ∧ gb ≠ rb ∧ gb ≠ xb ∧ rb ≠ xb
variable {W0 W W' : World} {lv0 : Value} {G0 : List Nat} {eb gb rb xb : Nat} {P P' : En} {sg s ld er g : Int}
theorem SegAt.step (h : SegAt W0 lv0 G0 eb gb rb xb P sg s ld er g W) (ht : Frm.Turn [] W W') : SegAt W0 lv0 G0 eb gb rb xb P sg s ld er g W' := by
  obtain ⟨⟨CS, lv, G, h1, h2, h3, h4⟩, h5, h6, h7, h8, h9⟩ := h
  exact ⟨⟨CS, lv, G, h1.step ht, h2, h3, h4⟩, h5.trans ht (by simp), ht.keep h6 (by simp), ht.keep h7 (by simp), ht.keep h8 (by simp), h9⟩
/-- An access. -/
theorem SegAt.acc (h : SegAt W0 lv0 G0 eb gb rb xb P sg s ld er g W) {f : Nat} {args : Array Value} {v : Value}
    (hc : ∀ CS lv G, EnAt W eb P CS lv G → Calls Tryz.prog f args W (AccPost W eb P' lv G v)) :
    Calls Tryz.prog f args W fun e w' => e = .returned v ∧ SegAt W0 lv0 G0 eb gb rb xb P' sg s ld er g w' := by
  obtain ⟨⟨CS, lv, G, h1, h2, h3, h4⟩, h5, h6, h7, h8, h9⟩ := h
  refine (hc CS lv G h1).mono ?_
  rintro e w' ⟨rfl, CS', lv', G', e1, e2, e3, e4⟩
  have hz := h5.size
  have hb : ∀ k, k = gb ∨ k = rb ∨ k = xb → k < W.heap.size ∧ k ≠ eb := by
    have b1 := (Array.getElem?_eq_some_iff.1 h6).1
    have b2 := (Array.getElem?_eq_some_iff.1 h7).1
    have b3 := (Array.getElem?_eq_some_iff.1 h8).1
    intro k hk
    omega
  have hk : ∀ k, k = gb ∨ k = rb ∨ k = xb → k ∉ [eb] := fun k hk => by simpa using (hb k hk).2
  refine ⟨rfl, ⟨CS', lv', G', e1, fun k hk => ⟨fun hg => ?_, fun hl => ?_⟩, fun k hg => ?_, fun k hl => ?_⟩, h5.trans e2 (fun k hk => .inl hk), e2.keep h6 (hk _ (.inl rfl)), e2.keep h7 (hk _ (.inr (.inl rfl))), e2.keep h8 (hk _ (.inr (.inr rfl))), h9⟩
  · rcases e3 k hg with h | h
    · exact (h2 k hk).1 h
    · have := (hb k hk).1; omega
  · rcases e4 k hl with h | h
    · exact (h2 k hk).2 h
    · have := (hb k hk).1; omega
  · rcases e3 k hg with h | h
    · exact h3 k h
    · exact .inr (by omega)
  · rcases e4 k hl with h | h
    · exact h4 k h
    · exact .inr (by omega)
/-- What it has got is written. -/
theorem SegAt.put (h : SegAt W0 lv0 G0 eb gb rb xb P sg s ld er g W) (j : Nat) (v : Value) {sg' ld' er' : Int} (hv : (gotCells sg s ld er).setIfInBounds j v = gotCells sg' s ld' er') : SegAt W0 lv0 G0 eb gb rb xb P sg' s ld' er' g (W.setCell ⟨gb, j, none⟩ v) := by
  obtain ⟨⟨CS, lv, G, h1, h2, h3, h4⟩, h5, h6, h7, h8, h9⟩ := h
  have hT : Frm.Turn [gb] W (W.setCell ⟨gb, j, none⟩ v) := (Frm.Turn.refl [gb] W).setCell (p := ⟨gb, j, none⟩) (.inl (by simp)) v
  have hl := h1.lt
  refine ⟨⟨CS, lv, G, h1.turn hT (by simp; omega) (fun k hk e => by simp at e; subst e; exact (h2 _ (.inl rfl)).1 hk) (fun k hk e => by simp at e; subst e; exact (h2 _ (.inl rfl)).2 hk), h2, h3, h4⟩, h5.trans hT (fun k hk => .inr (by simp at hk; omega)), ?_, hT.keep h7 (by simp; omega), hT.keep h8 (by simp; omega), h9⟩
  rw [Frm.heap_set _ _ _ _ _ _ _ h6, hv]
theorem SegAt.cells (h : SegAt W0 lv0 G0 eb gb rb xb P sg s ld er g W) :
    (W.cell? ⟨gb, 0, none⟩ = some (.int .u64 sg) ∧ W.cell? ⟨gb, 1, none⟩ = some (.int .i64 s) ∧ W.cell? ⟨gb, 2, none⟩ = some (.bool false) ∧ W.cell? ⟨gb, 3, none⟩ = some (.int .u64 ld) ∧ W.cell? ⟨gb, 4, none⟩ = some (.int .i64 er)) ∧
    (W.cell? ⟨xb, 0, none⟩ = some (.int .u64 0) ∧ W.cell? ⟨xb, 1, none⟩ = some (.int .i64 (1 + g))) ∧ W.cell? ⟨eb, 23, none⟩ = some (.bool P.stop) ∧
    (∀ j, W.frozen? ⟨gb, j, none⟩ = false) ∧ (∀ j, W.frozen? ⟨rb, j, none⟩ = false) := by
  obtain ⟨⟨CS, lv, G, h1, h2, h3, h4⟩, h5, h6, h7, h8, h9⟩ := h
  exact ⟨⟨(Frm.cell_row _ _ 0 _ _ _ h6).trans rfl, (Frm.cell_row _ _ 1 _ _ _ h6).trans rfl, (Frm.cell_row _ _ 2 _ _ _ h6).trans rfl, (Frm.cell_row _ _ 3 _ _ _ h6).trans rfl, (Frm.cell_row _ _ 4 _ _ _ h6).trans rfl⟩, ⟨(Frm.cell_row _ _ 0 _ _ _ h8).trans rfl, (Frm.cell_row _ _ 1 _ _ _ h8).trans rfl⟩, h1.cells.2.2.2, fun j => Frm.frozen_row _ _ _ _ _ h6, fun j => Frm.frozen_row _ _ _ _ _ h7⟩
theorem SegAt.rcells (h : SegAt W0 lv0 G0 eb gb rb xb P sg s ld er g W) :
    W.cell? ⟨rb, 0, none⟩ = some (.int .u64 0) ∧ W.cell? ⟨rb, 1, none⟩ = some (.int .i64 0) ∧ W.cell? ⟨rb, 2, none⟩ = some (.bool false) ∧ W.cell? ⟨rb, 3, none⟩ = some (.int .u64 0) ∧ W.cell? ⟨rb, 4, none⟩ = some (.int .i64 0) :=
  ⟨(Frm.cell_row _ _ 0 _ _ _ h.res).trans rfl, (Frm.cell_row _ _ 1 _ _ _ h.res).trans rfl, (Frm.cell_row _ _ 2 _ _ _ h.res).trans rfl, (Frm.cell_row _ _ 3 _ _ _ h.res).trans rfl, (Frm.cell_row _ _ 4 _ _ _ h.res).trans rfl⟩
/-- How many accesses the environment counts. -/
def cntE (eb : Nat) (W : World) : Nat := match W.cell? ⟨eb, 21, none⟩ with | some (.int .i64 n) => n.toNat | _ => 0
theorem SegAt.cnt (h : SegAt W0 lv0 G0 eb gb rb xb P sg s ld er g W) : cntE eb W = P.at_ := by
  obtain ⟨⟨CS, lv, G, h1, _⟩, _⟩ := h
  unfold cntE
  rw [h1.cells.2.1]
  simp
theorem plc_at {A A' : Ar} {L : List Res} {r : Res} {i : Nat} (h : i ≤ L.length + 2) : (plcE A A' L r i).at_ = i := by
  unfold plcE posE endE
  split
  · split
    · rfl
    · dsimp only; omega
  · dsimp only; omega
end Evn
end Go.Proofs.YtolcpfidmpoipaaGreat

set_option linter.unusedVariables false
set_option linter.unusedSimpArgs false
namespace Go.Proofs.YtolcpfidmpoipaaGreat
namespace Evn
open Go.RowKit Go.Maps Arn Clm

/-- A claim for tok: L was answered, r is what the next access answers on A. -/
structure Goes (tok : Int) (A A' : Ar) (L : List Res) (r : Res) : Prop where
  few : L.length ≤ 50000
  tk : tok ≠ 0
  lA : LimA A
  lA' : LimA A'
  acc : (L.foldl Cl.next (Cl.new tok)).acc A = (A', r)
def clAt (tok : Int) (L : List Res) (r : Res) (i : Nat) : Cl := stAt Cl.next (Cl.new tok) L r i
variable {tok : Int} {A A' : Ar} {L : List Res} {r : Res} {i : Nat}
theorem clAt_succ (h : i ≤ L.length) : clAt tok L r (i + 1) = (clAt tok L r i).next (ansE L r i) := stAt_succ _ _ _ _ h
theorem clAt_way (h : tok ≠ 0) (i : Nat) : (clAt tok L r i).Way tok := way_fold (way_new h) _
theorem Goes.at_ (R : Goes tok A A' L r) (h : i = L.length) : (clAt tok L r i).acc A = (A', r) := by
  subst h
  unfold clAt
  rw [(stAt_last _ _ _ _).2]
  exact R.acc
variable {W0 W : World} {lv0 : Value} {G0 : List Nat} {eb gb rb xb : Nat} {sg s ld er : Int} {g n : Nat}
theorem seg_read (R : Goes tok A A' L r) (h : SegAt W0 lv0 G0 eb gb rb xb (plcE A A' L r i) sg s ld er g W) (hi : i ≤ L.length + 1) (hs : (clAt tok L r i).st = 1) (hg : sgN (clAt tok L r i).slot = g) :
    Calls Tryz.prog 49 #[.pointer (some ⟨eb, 0, none⟩), .agg #[.int .u64 0, .int .i64 (1 + g)]] W fun e w' => e = .returned (.int .u64 (ansE L r i).w) ∧ SegAt W0 lv0 G0 eb gb rb xb (plcE A A' L r (i + 1)) sg s ld er g w' :=
  h.acc fun CS lv G hE => read_pos hE R.few R.lA R.lA' hi 0 (1 + g) fun e => by
    have := R.at_ e
    unfold Cl.acc at this
    rw [if_pos hs, hg] at this
    exact this
theorem seg_lay (R : Goes tok A A' L r) (h : SegAt W0 lv0 G0 eb gb rb xb (plcE A A' L r i) sg s ld er g W) (hi : i ≤ L.length + 1) (hs : (clAt tok L r i).st = 2) (hg : sgN (clAt tok L r i).slot = g) (x : Value) (hx : ∀ W', Frm.Turn [eb] W W' → WordsAt W' x (List.replicate (7 * 2 ^ g) 0)) (hg8 : g < 8) :
    Calls Tryz.prog 50 #[.pointer (some ⟨eb, 0, none⟩), x] W fun e w' => e = .returned (.tuple #[.int .u64 (ansE L r i).w, .int .i64 (ansE L r i).e]) ∧ SegAt W0 lv0 G0 eb gb rb xb (plcE A A' L r (i + 1)) sg s ld er g w' :=
  h.acc fun CS lv G hE => lay_pos hE R.few R.lA R.lA' hi x _ hx (by
    have : 2 ^ g ≤ 2 ^ 8 := Nat.pow_le_pow_right (by omega) (by omega)
    rw [List.length_replicate]; omega) fun e => by
    have := R.at_ e
    unfold Cl.acc at this
    rw [if_neg (by omega), if_pos hs, hg] at this
    exact this
theorem seg_swap (R : Goes tok A A' L r) (h : SegAt W0 lv0 G0 eb gb rb xb (plcE A A' L r i) sg s ld er g W) (hi : i ≤ L.length + 1) (hs : (clAt tok L r i).st = 3) (hg : sgN (clAt tok L r i).slot = g) (v : Int) (hv : (clAt tok L r i).laid = v) :
    Calls Tryz.prog 31 #[.pointer (some ⟨eb, 0, none⟩), .agg #[.int .u64 0, .int .i64 (1 + g)], .int .u64 0, .int .u64 v] W fun e w' => e = .returned (.bool (ansE L r i).ok) ∧ SegAt W0 lv0 G0 eb gb rb xb (plcE A A' L r (i + 1)) sg s ld er g w' :=
  h.acc fun CS lv G hE => swap_pos hE R.few R.lA R.lA' hi 0 (1 + g) 0 v fun e => by
    have := R.at_ e
    unfold Cl.acc at this
    rw [if_neg (by omega), if_neg (by omega), if_pos hs, hg, hv] at this
    exact this
theorem seg_free (R : Goes tok A A' L r) (h : SegAt W0 lv0 G0 eb gb rb xb (plcE A A' L r i) sg s ld er g W) (hi : i ≤ L.length + 1) (hs : (clAt tok L r i).st = 4) (v : Int) (hv : (clAt tok L r i).laid = v) :
    Calls Tryz.prog 51 #[.pointer (some ⟨eb, 0, none⟩), .int .u64 v] W fun e w' => e = .returned (.tuple #[]) ∧ SegAt W0 lv0 G0 eb gb rb xb (plcE A A' L r (i + 1)) sg s ld er g w' :=
  h.acc fun CS lv G hE => free_pos hE R.few R.lA R.lA' hi v fun e => by
    have := R.at_ e
    unfold Cl.acc at this
    rw [if_neg (by omega), if_neg (by omega), if_neg (by omega), if_pos hs, hv] at this
    exact this
/-- What a segment hands back. -/
def SegOk (tok : Int) (L : List Res) (r : Res) (s : Nat) (j : Nat) (sg ld er : Int) : Prop :=
  (j = L.length + 2 ∧ (clAt tok L r (L.length + 1)).st ≠ 0 ∧ (clAt tok L r (L.length + 1)).slot = s ∧ (clAt tok L r (L.length + 1)).laid = ld ∧ er = 0) ∨
  (j ≤ L.length + 1 ∧ (clAt tok L r j).slot = s ∧ (clAt tok L r j).laid = ld ∧ ((clAt tok L r j).st = 5 ∧ (clAt tok L r j).seg = sg ∧ er = 0 ∨ (clAt tok L r j).st = 0 ∧ (clAt tok L r j).err = er ∧ er ≠ 0 ∧ (clAt tok L r j).own = false))
/-- The cells of the result are written. -/
theorem put5 (w : World) (k : Nat) (a b c d e x0 x1 x2 x3 x4 : Value) (t : TypeId) (h : w.heap[k]? = some (.cells #[a, b, c, d, e] t (0, 0))) :
    (((((w.setCell ⟨k, 0, none⟩ x0).setCell ⟨k, 1, none⟩ x1).setCell ⟨k, 2, none⟩ x2).setCell ⟨k, 3, none⟩ x3).setCell ⟨k, 4, none⟩ x4).heap[k]? = some (.cells #[x0, x1, x2, x3, x4] t (0, 0)) ∧
    Frm.Turn [k] w (((((w.setCell ⟨k, 0, none⟩ x0).setCell ⟨k, 1, none⟩ x1).setCell ⟨k, 2, none⟩ x2).setCell ⟨k, 3, none⟩ x3).setCell ⟨k, 4, none⟩ x4) :=
  ⟨Frm.heap_set _ k 4 _ _ _ x4 (Frm.heap_set _ k 3 _ _ _ x3 (Frm.heap_set _ k 2 _ _ _ x2 (Frm.heap_set _ k 1 _ _ _ x1 (Frm.heap_set _ k 0 _ _ _ x0 h)))),
   (((((Frm.Turn.refl [k] w).setCell (p := ⟨k, 0, none⟩) (.inl (by simp)) _).setCell (p := ⟨k, 1, none⟩) (.inl (by simp)) _).setCell (p := ⟨k, 2, none⟩) (.inl (by simp)) _).setCell (p := ⟨k, 3, none⟩) (.inl (by simp)) _).setCell (p := ⟨k, 4, none⟩) (.inl (by simp)) _⟩
/-- What a segment leaves. -/
def SegPost (i0 : Nat) (tok : Int) (A A' : Ar) (L : List Res) (r : Res) (W0 : World) (lv0 : Value) (G0 : List Nat) (eb s : Nat) (e : Ending) (w : World) : Prop :=
  ∃ (j : Nat) (sg ld er : Int), i0 ≤ j ∧ e = .returned (.agg (gotCells sg s ld er)) ∧ SegOk tok L r s j sg ld er ∧ (∃ CS lv G, EnAt w eb (plcE A A' L r j) CS lv G ∧ (∀ k, k ∈ G → k ∈ G0 ∨ W0.heap.size ≤ k) ∧ ∀ k, lv.ownBlock = some k → lv0.ownBlock = some k ∨ W0.heap.size ≤ k) ∧ Frm.Turn [eb] W0 w
theorem under_got : structB (Tryz.prog.underlying 56) = true := by kernel_rfl
theorem info_got : (Tryz.prog.info? 56).map (·.size) = some 5 := by kernel_rfl
/-- The return of a segment. -/
theorem SegAt.out {i0 j : Nat} {s : Nat} (h : SegAt W0 lv0 G0 eb gb rb xb (plcE A A' L r j) sg s ld er g W) (hij : i0 ≤ j) (hok : SegOk tok L r s j sg ld er) :
    (loadVar 56 ⟨rb, 0, none⟩).run Tryz.prog (((((W.setCell ⟨rb, 0, none⟩ (.int .u64 sg)).setCell ⟨rb, 1, none⟩ (.int .i64 s)).setCell ⟨rb, 2, none⟩ (.bool false)).setCell ⟨rb, 3, none⟩ (.int .u64 ld)).setCell ⟨rb, 4, none⟩ (.int .i64 er)) = .ok (.agg (gotCells sg s ld er)) (((((W.setCell ⟨rb, 0, none⟩ (.int .u64 sg)).setCell ⟨rb, 1, none⟩ (.int .i64 s)).setCell ⟨rb, 2, none⟩ (.bool false)).setCell ⟨rb, 3, none⟩ (.int .u64 ld)).setCell ⟨rb, 4, none⟩ (.int .i64 er)) ∧
    SegPost i0 tok A A' L r W0 lv0 G0 eb s (.returned (.agg (gotCells sg s ld er))) (((((W.setCell ⟨rb, 0, none⟩ (.int .u64 sg)).setCell ⟨rb, 1, none⟩ (.int .i64 s)).setCell ⟨rb, 2, none⟩ (.bool false)).setCell ⟨rb, 3, none⟩ (.int .u64 ld)).setCell ⟨rb, 4, none⟩ (.int .i64 er)) := by
  obtain ⟨⟨CS, lv, G, h1, h2, h3, h4⟩, h5, h6, h7, h8, h9⟩ := h
  have hl := h1.lt
  obtain ⟨p1, p2⟩ := put5 W rb _ _ _ _ _ (.int .u64 sg) (.int .i64 s) (.bool false) (.int .u64 ld) (.int .i64 er) _ h7
  obtain ⟨fs, hfs⟩ := struct_of under_got
  refine ⟨run_loadVar_row _ rb _ _ (gotCells sg s ld er) (0, 0) (.struct fs) p1 hfs rfl info_got, j, sg, ld, er, hij, rfl, hok, ⟨CS, lv, G, h1.turn p2 (by simp; omega) (fun k hk e => by simp at e; subst e; exact (h2 _ (.inr (.inl rfl))).1 hk) (fun k hk e => by simp at e; subst e; exact (h2 _ (.inr (.inl rfl))).2 hk), h3, h4⟩, h5.trans p2 (fun k hk => .inr (by simp at hk; omega))⟩
end Evn
end Go.Proofs.YtolcpfidmpoipaaGreat
