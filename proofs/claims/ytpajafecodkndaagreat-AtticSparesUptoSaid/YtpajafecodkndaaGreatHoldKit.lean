/- What an arena's rows are behind each call; grips, fetches and clears, plainly. No program is spoken of here. -/
/- Accesses and gears upon parts; the words of slots, the program's and the document's. -/
import Derived.Test.YtpajafecodkndaaGreatClaimStep
import Derived.Test.YtpajafecodkndaaGreatStash
import Derived.Test.YtpajafecodkndaaGreatCountSegsWalk
import Derived.Deep.RegionWith
set_option linter.unusedVariables false
set_option linter.unusedSimpArgs false
namespace Go.Proofs.YtpajafecodkndaaGreat
namespace Hld
open Arn Clm

/-! ### rows -/
theorem row_set (A : Ar) (blk i v k : Int) : (A.set blk i v).row k = if k = blk then (A.row blk).map (fun ws => ws.set i.toNat v) else A.row k := by
  unfold Ar.set
  by_cases hb : blk = 0
  · subst hb
    rw [if_pos rfl]
    unfold Ar.row
    by_cases hk : k = 0
    · subst hk; simp
    · simp [hk]
  · rw [if_neg hb]
    unfold Ar.row
    by_cases hk : k = 0
    · subst hk
      have : ¬ (0 : Int) = blk := fun e => hb e.symm
      simp [this]
    · rw [if_neg hk, if_neg hb, if_neg hk]
      exact look_setW A.L blk i.toNat v k
theorem row_read (A : Ar) (blk i k : Int) : (A.read blk i).1.row k = A.row k := by
  unfold Ar.read
  split <;> rfl
theorem row_write (A : Ar) (blk i v k : Int) : (A.write blk i v).1.row k = if A.err blk i = 0 ∧ k = blk then (A.row blk).map (fun ws => ws.set i.toNat v) else A.row k := by
  unfold Ar.write
  by_cases h : A.err blk i = 0
  · rw [if_pos h]
    have := row_set A blk i v k
    by_cases hk : k = blk
    · rw [if_pos ⟨h, hk⟩]
      rw [if_pos hk] at this
      exact this
    · rw [if_neg (fun e => hk e.2)]
      rw [if_neg hk] at this
      exact this
  · rw [if_neg h, if_neg (fun e => h e.1)]
    rfl
theorem ok_read {A : Ar} (h : A.Ok) (blk i : Int) : (A.read blk i).1.Ok := by
  unfold Ar.read
  split
  · exact h.tally A.faults _
  · exact h.tally _ A.t
theorem ok_write {A : Ar} (h : A.Ok) (blk i : Int) {v : Int} (hv : W64 v) : (A.write blk i v).1.Ok := by
  unfold Ar.write
  split
  · exact (h.set (blk := blk) (i := i) hv).tally _ _
  · exact h.tally _ A.t
theorem err_row {A : Ar} {blk i : Int} {l : List Int} (h : A.row blk = some l) (h0 : 0 ≤ i) (hi : i < (l.length : Int)) : A.err blk i = 0 := by
  unfold Ar.err
  rw [h]
  simp [h0, hi]
theorem read_row {A : Ar} {blk i : Int} {l : List Int} (h : A.row blk = some l) (h0 : 0 ≤ i) (hi : i < (l.length : Int)) : (A.read blk i).2 = (l.getD i.toNat 0, 0) := by
  unfold Ar.read
  rw [err_row h h0 hi, if_pos rfl]
  unfold Ar.get
  rw [h]
  rfl
theorem write_row {A : Ar} {blk i : Int} {l : List Int} (h : A.row blk = some l) (h0 : 0 ≤ i) (hi : i < (l.length : Int)) (v k : Int) : (A.write blk i v).2 = 0 ∧ (A.write blk i v).1.row k = if k = blk then some (l.set i.toNat v) else A.row k := by
  have he := err_row h h0 hi
  refine ⟨by unfold Ar.write; rw [he, if_pos rfl], ?_⟩
  rw [row_write, he]
  by_cases hk : k = blk
  · rw [if_pos ⟨rfl, hk⟩, if_pos hk, h]; rfl
  · rw [if_neg (fun e => hk e.2), if_neg hk]
theorem read_wr (A : Ar) (h : A.Ok) (blk i : Int) : W64 (A.read blk i).2.1 := by
  unfold Ar.read
  split
  · exact get_wrd h blk i
  · show W64 0
    exact ⟨by omega, by omega⟩
/-! ### what lies behind a lay -/
theorem row_lay {A : Ar} (hA : A.Ok) {ws : List Int} {k : Int} (h1 : 1 ≤ ws.length) (h2 : ws.length ≤ 2048) (h3 : used A.L + ws.length ≤ A.cap) (hb : A.births < 268435455) :
    (A.lay ws).2.2 = 0 ∧ (A.lay ws).2.1 ≠ 0 ∧ A.row (A.lay ws).2.1 = none ∧ (A.lay ws).1.row k = if k = (A.lay ws).2.1 then some ws else A.row k := by
  have e : A.lay ws = ({ A with births := A.births + 1, L := A.L.take (lead 0 A.L) ++ ⟨((A.births : Int) + 1) * 65536 + ((lead 0 A.L : Int) + 1), ws⟩ :: A.L.drop (lead 0 A.L), peak := max A.peak (used A.L + ws.length), t := { A.t with lays := A.t.lays + 1 } },
      ((A.births : Int) + 1) * 65536 + ((lead 0 A.L : Int) + 1), 0) := by
    unfold Ar.lay
    rw [if_neg (by omega), if_neg (by omega)]
  have hl := lead_le A.L 0
  have hlu := length_le_used (l := A.L) (fun x hx => (hA.len x hx).1)
  have hlc : lead 0 A.L ≤ 60000 := by have := hA.cap; have := hA.top; have := hA.peak; omega
  rw [e]
  dsimp only
  have hne : ((A.births : Int) + 1) * 65536 + ((lead 0 A.L : Int) + 1) ≠ 0 := by omega
  have hno : hasH A.L (((A.births : Int) + 1) * 65536 + ((lead 0 A.L : Int) + 1)) = false := by
    rw [hasH_false]
    intro x hx e2
    have h5 := (hA.hnd x hx).2.2
    rw [e2] at h5
    omega
  refine ⟨rfl, hne, ?_, ?_⟩
  · unfold Ar.row
    rw [if_neg hne]
    exact look_none.2 hno
  · unfold Ar.row
    dsimp only
    by_cases hk : k = 0
    · subst hk
      rw [if_pos rfl, if_neg (fun e => hne e.symm), if_pos rfl]
    · rw [if_neg hk, if_neg hk, look_mid _ _ _ _ _ hno]
/-! ### the machines -/
/-- A grip. -/
structure Gp where
  st : Nat
  seg : Int
  slot : Nat
  root : Int
  out : Int
def Gp.new (seg : Int) (slot : Nat) : Gp := ⟨1, seg, slot, 0, 0⟩
def Gp.step (C : Gp) (A : Ar) : Ar × Gp :=
  if C.st = 1 then ((A.read 0 0).1, { C with root := (A.read 0 0).2.1, st := 2 })
  else if C.st = 2 then ((A.write C.seg (5 * ofN C.slot + 3) (C.root / 1048576)).1, { C with st := 3 })
  else if C.st = 3 then ((A.read 0 0).1, { C with out := if (A.read 0 0).2.1 = C.root then 1 else 2, st := 0 })
  else (A, C)
/-- A fetch. -/
structure Fe where
  st : Nat
  seg : Int
  slot : Nat
  root : Int
  blk : Int
  n : Int
  ws : List Int
  out : Int
def Fe.new (seg : Int) (slot : Nat) (root blk n : Int) : Fe := ⟨1, seg, slot, root, blk, n, [], 0⟩
def Fe.goOn (C : Fe) : Fe := if C.n ≤ (C.ws.length : Int) then { C with out := 1, st := 0 } else { C with st := 3 }
def Fe.add (C : Fe) (x : Int) : Fe := { C with ws := C.ws ++ [x] }
def Fe.step (C : Fe) (A : Ar) : Ar × Fe :=
  if C.st = 1 then ((A.write C.seg (5 * ofN C.slot + 4) C.blk).1, { C with st := 2 })
  else if C.st = 2 then ((A.read 0 0).1, if (A.read 0 0).2.1 = C.root then C.goOn else { C with out := 2, st := 0 })
  else if C.st = 3 then ((A.read C.blk C.ws.length).1, (C.add (A.read C.blk C.ws.length).2.1).goOn)
  else (A, C)
/-- A clear. -/
structure Cr where
  st : Nat
  seg : Int
  slot : Nat
def Cr.step (C : Cr) (A : Ar) : Ar × Cr :=
  if C.st = 1 then ((A.write C.seg (5 * ofN C.slot + 3) 0).1, { C with st := 2 })
  else if C.st = 2 then ((A.write C.seg (5 * ofN C.slot + 4) 0).1, { C with st := 0 })
  else (A, C)
structure Gp.Fit (C : Gp) : Prop where
  seg : C.seg ≠ 0
  seg64 : W64 C.seg
  slot : C.slot < 255
  root : W64 C.root
  out : 0 ≤ C.out ∧ C.out ≤ 2
structure Fe.Fit (C : Fe) : Prop where
  seg : C.seg ≠ 0
  seg64 : W64 C.seg
  slot : C.slot < 255
  blk : W64 C.blk
  root : W64 C.root
  ws : ∀ x, x ∈ C.ws → W64 x
  out : 0 ≤ C.out ∧ C.out ≤ 2
structure Cr.Fit (C : Cr) : Prop where
  seg : C.seg ≠ 0
  seg64 : W64 C.seg
  slot : C.slot < 255
theorem Gp.Fit.step {C : Gp} {A : Ar} (h : C.Fit) (hA : A.Ok) : (C.step A).2.Fit := by
  obtain ⟨h1, h2, h3, h4, h5⟩ := h
  unfold Gp.step
  split
  · exact ⟨h1, h2, h3, read_wr A hA 0 0, h5⟩
  split
  · exact ⟨h1, h2, h3, h4, h5⟩
  split
  · refine ⟨h1, h2, h3, h4, ?_⟩
    dsimp only
    split <;> omega
  · exact ⟨h1, h2, h3, h4, h5⟩
theorem Fe.Fit.goOn {C : Fe} (h : C.Fit) : C.goOn.Fit := by
  obtain ⟨h1, h2, h3, h4, h5, h6, h7⟩ := h
  unfold Fe.goOn
  split
  · exact ⟨h1, h2, h3, h4, h5, h6, by dsimp only; omega⟩
  · exact ⟨h1, h2, h3, h4, h5, h6, h7⟩
theorem Fe.Fit.add {C : Fe} (h : C.Fit) {x : Int} (hx : W64 x) : (C.add x).Fit := by
  obtain ⟨h1, h2, h3, h4, h5, h6, h7⟩ := h
  refine ⟨h1, h2, h3, h4, h5, fun y hy => ?_, h7⟩
  rcases List.mem_append.1 hy with hy | hy
  · exact h6 y hy
  · rw [List.mem_singleton.1 hy]; exact hx
theorem Fe.Fit.step {C : Fe} {A : Ar} (h : C.Fit) (hA : A.Ok) : (C.step A).2.Fit := by
  have h0 := h
  obtain ⟨h1, h2, h3, h4, h5, h6, h7⟩ := h
  unfold Fe.step
  split
  · exact ⟨h1, h2, h3, h4, h5, h6, h7⟩
  split
  · dsimp only
    split
    · exact h0.goOn
    · exact ⟨h1, h2, h3, h4, h5, h6, by dsimp only; omega⟩
  split
  · exact (h0.add (read_wr A hA _ _)).goOn
  · exact h0
theorem Cr.Fit.step {C : Cr} {A : Ar} (h : C.Fit) : (C.step A).2.Fit := by
  obtain ⟨h1, h2, h3⟩ := h
  unfold Cr.step
  split
  · exact ⟨h1, h2, h3⟩
  split
  · exact ⟨h1, h2, h3⟩
  · exact ⟨h1, h2, h3⟩
end Hld
end Go.Proofs.YtpajafecodkndaaGreat

set_option linter.unusedVariables false
set_option linter.unusedSimpArgs false
namespace Go.Proofs.YtpajafecodkndaaGreat
namespace Hld
open Go.RowKit Go.Maps Arn Pac Clm Cnt Sta

variable {w W W' : World} {b k n r : Nat} {A : Ar} {ps : List Part}
/-! ### parts -/
def bkP (x : Nat) (o : Obj) : Part := ⟨[x], [], fun W => W.heap[x]? = some o⟩
theorem bkP_fra (x : Nat) (o : Obj) : (bkP x o).Fra := fun W W' F h ht h1 _ => ht.keep h (h1 x (by simp [bkP]))
def rwP (base : Nat) (v : Value) (xs : List Int) : Part := ⟨v.ownBlock.toList, [], fun W => W.ownsRow base 31 1 v xs.length (u64s xs)⟩
theorem rwP_fra (base : Nat) (v : Value) (xs : List Int) : (rwP base v xs).Fra := fun W W' F h ht h1 _ => Frm.owns_turn h ht (fun q hq => h1 q (by simp [rwP, hq]))
theorem set_cell {W : World} {g i : Nat} {l : List Value} {t : TypeId} (v : Value) (h : W.heap[g]? = some (.cells l.toArray t (0, 0))) : (W.setCell ⟨g, i, none⟩ v).heap[g]? = some (.cells (l.set i v).toArray t (0, 0)) := by
  rw [Frm.heap_set _ _ _ _ _ _ _ h]
  simp
theorem poke_h {x i : Nat} {l : List Value} {t : TypeId} (u : Value) (S : Stash w b A k (bkP x (.cells l.toArray t) :: ps) W) : Stash w b A k (bkP x (.cells (l.set i u).toArray t) :: ps) (W.setCell ⟨x, i, none⟩ u) := by
  have h : W.heap[x]? = some (.cells l.toArray t (0, 0)) := S.on _ (List.mem_cons_self ..)
  exact S.act (turn_set W x i u) (by simp [bkP]) (bkP_fra _ _) (set_cell u h) (fun y hy => .inl hy) (by simp [bkP]) (by simp [bkP])
theorem cell_h {x i : Nat} {l : List Value} {t : TypeId} {u : Value} (S : Stash w b A k ps W) (hm : bkP x (.cells l.toArray t) ∈ ps) (hv : l[i]? = some u) : W.cell? ⟨x, i, none⟩ = some u := by
  have h : W.heap[x]? = some (.cells l.toArray t (0, 0)) := S.on _ hm
  rw [Frm.cell_row _ _ _ _ _ _ h]
  simpa using hv
theorem thaw_h {x i : Nat} {l : List Value} {t : TypeId} (S : Stash w b A k ps W) (hm : bkP x (.cells l.toArray t) ∈ ps) : W.frozen? ⟨x, i, none⟩ = false := Frm.frozen_row _ _ _ _ _ (S.on _ hm)
theorem add_h (S : Stash w b A k ps W) (o : Obj) (ho : (W.alloc o).heap[W.heap.size]? = some o) : Stash w b A k (bkP W.heap.size o :: ps) (W.alloc o) := by
  refine S.add ((Frm.Turn.refl [] W).alloc o) (bkP_fra _ _) ho (fun x hx => ?_) (by simp [bkP]) (by simp [bkP])
  simp [bkP] at hx; subst hx
  exact ⟨Nat.le_refl _, by rw [World.size_alloc]; omega⟩
/-! ### accesses -/
theorem read_h (S : Stash w b A k ps W) (hk : k ≤ 10000000) (blk i : Int) (hb : W64 blk) (hi : (Lit.int .i64 i).wf = true) :
    Calls Tryz.prog 58 #[.pointer (some ⟨b, 0, none⟩), .agg #[.int .u64 blk, .int .i64 i]] W fun e w' => e = .returned (.tuple #[.int .u64 (A.read blk i).2.1, .int .i64 (A.read blk i).2.2]) ∧ Stash w b (A.read blk i).1 (k + 1) ps w' :=
  (kin_read S.kin hk blk i hb hi).mono fun e w' ⟨he, h1, h2⟩ => ⟨he, S.but h1 h2⟩
theorem write_h (S : Stash w b A k ps W) (hk : k ≤ 10000000) (blk i v : Int) (hb : W64 blk) (hi : (Lit.int .i64 i).wf = true) (hv : W64 v) :
    Calls Tryz.prog 15 #[.pointer (some ⟨b, 0, none⟩), .agg #[.int .u64 blk, .int .i64 i], .int .u64 v] W fun e w' => e = .returned (.int .i64 (A.write blk i v).2) ∧ Stash w b (A.write blk i v).1 (k + 1) ps w' :=
  (kin_write S.kin hk blk i v hb hi hv).mono fun e w' ⟨he, h1, h2⟩ => ⟨he, S.but h1 h2⟩
theorem lay_h (S : Stash w b A k ps W) (hk : k ≤ 10000000) {v : Value} {ws : List Int} (hv : WordsAt W v ws) (ha : ∀ q, v.ownBlock = some q → q ∈ feet ps) (hw : ∀ x, x ∈ ws → W64 x) :
    Calls Tryz.prog 10 #[.pointer (some ⟨b, 0, none⟩), v] W fun e w' => e = .returned (.tuple #[.int .u64 (A.lay ws).2.1, .int .i64 (A.lay ws).2.2]) ∧ Stash w b (A.lay ws).1 (k + 1) ps w' :=
  (kin_lay S.kin hk hv ha hw).mono fun e w' ⟨he, h1, h2⟩ => ⟨he, S.but h1 h2⟩
/-! ### gears -/
theorem to_h {x v : Value} {l : List Value} {t : TypeId} (S : Stash w b A k (bkP r (.cells (x :: l).toArray t) :: ps) W) (hv : IsFn v) :
    Calls Tryz.prog 66 #[.pointer (some ⟨r, 0, none⟩), v] W fun e w' => e = .returned (.tuple #[]) ∧ Stash w b A k (bkP r (.cells (v :: l).toArray t) :: ps) w' := by
  refine (to_any r v x W hv (cell_h S (List.mem_cons_self ..) rfl) (thaw_h S (List.mem_cons_self ..))).mono ?_
  rintro e w' ⟨he, rfl⟩
  exact ⟨he, poke_h (i := 0) v S⟩
theorem end_h {x : Value} {l : List Value} {t : TypeId} (S : Stash w b A k (bkP r (.cells (x :: l).toArray t) :: ps) W) :
    Calls Tryz.prog 125 #[.pointer (some ⟨r, 0, none⟩)] W fun e w' => e = .returned (.tuple #[]) ∧ Stash w b A k (bkP r (.cells (.nilFunc :: l).toArray t) :: ps) w' := by
  refine (end_any r x W (cell_h S (List.mem_cons_self ..) rfl) (thaw_h S (List.mem_cons_self ..))).mono ?_
  rintro e w' ⟨he, rfl⟩
  exact ⟨he, poke_h (i := 0) .nilFunc S⟩
theorem gdone_h {x : Value} {l : List Value} {t : TypeId} (S : Stash w b A k ps W) (hm : bkP r (.cells (x :: l).toArray t) ∈ ps) (hv : IsFn x) :
    Calls Tryz.prog 76 #[.pointer (some ⟨r, 0, none⟩)] W fun e w' => e = .returned (.bool (idle x)) ∧ W = w' := gdone_any r x W hv (cell_h S hm rfl)
/-! ### words of slots -/
theorem top_any (a : Int) (w : World) (h : W64 a) :
    Calls Tryz.prog 133 #[.int .u64 a] w fun e w' => e = .returned (.int .u64 (a / 1048576)) ∧ w = w' := by
  obtain ⟨h0, h1⟩ := h
  go_enter Tryz.func133, Tryz.ntmps133
  go_wp2
  go_ret
  exact ⟨rfl, rfl⟩
set_option maxRecDepth 100000 in
set_option maxHeartbeats 4000000 in
/-- The words HoldA, HoldB of a slot. -/
theorem Word_f (seg : Int) (s : Nat) (f : Int) (w : World) (h : s < 255) (hz : (seg != 0) = true) (hf : f = 3 ∨ f = 4) :
    Calls Tryz.prog 127 #[.agg #[.int .u64 seg, .int .i64 s], .int .i64 f] w fun e w' => e = .returned (.tuple #[.agg #[.int .u64 seg, .int .i64 (5 * (ofN s : Int) + f)], .bool true]) ∧ Frm.Turn [] w w' := by
  have H1 := Lib.hid (fun W => Segment_n s W h)
  have H2 := Lib.hid (fun W => isThere_n seg W hz)
  obtain ⟨q1, q2, q3, q4, q5⟩ := sg_facts h
  have b0 : (0 : Int) ≤ (ofN s : Int) := by omega
  have b1 : (ofN s : Int) ≤ 127 := by omega
  have HT : Hid (∀ o o', Frm.Turn [] w ((w.alloc o).alloc o')) := Lib.hid (fun o o' => ((Frm.Turn.refl [] w).alloc o).alloc o')
  rw [show (5 : Int) * (ofN s : Int) + f = (ofN s : Int) * 5 + f by omega]
  generalize (ofN s : Int) = x at H1 b0 b1 ⊢
  generalize (sgN s : Int) = g at H1
  generalize (s : Int) = y at H1 ⊢
  clear q1 q2 q3 q4 q5 h hz
  rcases hf with rfl | rfl
  · go_enter Tryz.func127, Tryz.ntmps127
    go_wp2_with (first
      | (go_at_call 148; (with_reducible refine (H1.out _).mono ?_); rintro e w1 ⟨rfl, rfl⟩)
      | (go_at_call 149; (with_reducible refine (H2.out _).mono ?_); rintro e w1 ⟨rfl, rfl⟩))
    refine bodyPost_ret (v := .tuple #[.agg #[.int .u64 seg, .int .i64 (x * 5 + 3)], .bool true]) (by simp [results, Tryz.results127, go_sem]) rfl ⟨rfl, ?_⟩
    first | exact HT.out _ _ | exact ((HT.out _ _).setCell (p := ⟨w.heap.size + 1, 0, none⟩) (.inr (by show w.heap.size ≤ w.heap.size + 1; omega)) _).setCell (p := ⟨w.heap.size + 1, 1, none⟩) (.inr (by show w.heap.size ≤ w.heap.size + 1; omega)) _
  · go_enter Tryz.func127, Tryz.ntmps127
    go_wp2_with (first
      | (go_at_call 148; (with_reducible refine (H1.out _).mono ?_); rintro e w1 ⟨rfl, rfl⟩)
      | (go_at_call 149; (with_reducible refine (H2.out _).mono ?_); rintro e w1 ⟨rfl, rfl⟩))
    refine bodyPost_ret (v := .tuple #[.agg #[.int .u64 seg, .int .i64 (x * 5 + 4)], .bool true]) (by simp [results, Tryz.results127, go_sem]) rfl ⟨rfl, ?_⟩
    first | exact HT.out _ _ | exact ((HT.out _ _).setCell (p := ⟨w.heap.size + 1, 0, none⟩) (.inr (by show w.heap.size ≤ w.heap.size + 1; omega)) _).setCell (p := ⟨w.heap.size + 1, 1, none⟩) (.inr (by show w.heap.size ≤ w.heap.size + 1; omega)) _
set_option maxRecDepth 100000 in
/-- The document's. -/
theorem RWord_f (seg : Int) (s : Nat) (f : Int) (W : World) (h : s < 255) (f0 : 0 ≤ f) (f1 : f ≤ 10) : Calls Tryz.prog 52 #[.agg #[.int .u64 seg, .int .i64 s], .int .i64 f] W fun e w' => e = .returned (.agg #[.int .u64 seg, .int .i64 (5 * (ofN s : Int) + f)]) ∧ Frm.Turn [] W w' := by
  have H1 := Lib.hid (fun W => RSegment_any s W h)
  obtain ⟨q1, q2, q3, q4, q5⟩ := sg_facts h
  have b0 : (0 : Int) ≤ (ofN s : Int) := by omega
  have b1 : (ofN s : Int) ≤ 127 := by omega
  have HT : Hid (∀ o o', Frm.Turn [] W ((W.alloc o).alloc o')) := Lib.hid (fun o o' => ((Frm.Turn.refl [] W).alloc o).alloc o')
  generalize (ofN s : Int) = x at H1 b0 b1 ⊢
  generalize (sgN s : Int) = g at H1
  generalize (s : Int) = y at H1 ⊢
  clear q1 q2 q3 q4 q5 h
  go_enter Tryz.func52, Tryz.ntmps52
  go_wp2_with (first
    | (go_at_call 98; (with_reducible refine (H1.out _).mono ?_); rintro e w1 ⟨rfl, rfl⟩))
  have hn := World.alloc_heap_new (W.alloc (.cells #[.int .u64 seg, .int .i64 y] 46)) (.cells #[.int .u64 seg, .int .i64 (5 * x + f)] 66)
  rw [World.size_alloc] at hn
  have hld := load_adr hn
  exact bodyPost_ret (v := .agg #[.int .u64 seg, .int .i64 (5 * x + f)]) (by simp [results, Tryz.results52, asAddr, hld, Act.put]) rfl ⟨rfl, HT.out _ _⟩
/-! ### what the machines have in common -/
set_option maxRecDepth 100000 in
set_option maxHeartbeats 4000000 in
theorem hwrite_any {seg v f : Int} {s : Nat} (S : Stash w b A k ps W) (hk : k ≤ 10000000) (h1 : W.cell? ⟨r, 1, none⟩ = some (.pointer (some ⟨b, 0, none⟩))) (h2 : W.cell? ⟨r, 2, none⟩ = some (.int .u64 seg)) (h3 : W.cell? ⟨r, 3, none⟩ = some (.int .i64 s))
    (hs : s < 255) (hz : seg ≠ 0) (h64 : W64 seg) (hf : f = 3 ∨ f = 4) (hv : W64 v) :
    Calls Tryz.prog 110 #[.pointer (some ⟨r, 0, none⟩), .int .i64 f, .int .u64 v] W fun e w' => e = .returned (.tuple #[]) ∧ Stash w b (A.write seg (5 * (ofN s : Int) + f) v).1 (k + 1) ps w' := by
  have HWD := Lib.hid (fun W => Word_f seg s f W hs (by simpa using hz) hf)
  have hof : (ofN s : Int) ≤ 127 := by have := (sg_facts hs).2.2; omega
  have HWR := Lib.hid (fun W' (hT : Frm.Turn [] W W') => write_h (S.still hT) hk seg (5 * (ofN s : Int) + f) v h64 (wf_small (by omega) (by omega)) hv)
  have HC1 : Hid (∀ W', Frm.Turn [] W W' → W'.cell? ⟨r, 1, none⟩ = some (.pointer (some ⟨b, 0, none⟩))) := Lib.hid (fun W' hT => hT.cell h1 (by simp))
  have HT0 := Lib.hid (Frm.Turn.refl [] W)
  clear hs hz h64 hf hv S
  generalize (A.write seg (5 * (ofN s : Int) + f) v).1 = A' at HWR ⊢
  generalize (A.write seg (5 * (ofN s : Int) + f) v).2 = e' at HWR
  generalize 5 * (ofN s : Int) + f = x at HWD HWR
  go_enter Tryz.func110, Tryz.ntmps110
  go_upto_region 3 with (go_at_call 127; (with_reducible refine (HWD.out _).mono ?_); rintro e w1 ⟨rfl, hT⟩; have HT1 := Lib.hid hT; clear hT)
  have hn := World.alloc_heap_new w1 (.cells #[.int .u64 seg, .int .i64 x] 66)
  have hT2 := HT1.out.alloc (.cells #[.int .u64 seg, .int .i64 x] 66)
  have c1 := HC1.out _ hT2
  have p0 := (Frm.cell_row _ _ 0 _ _ _ hn).trans rfl
  have p1 := (Frm.cell_row _ _ 1 _ _ _ hn).trans rfl
  have HW2 := Lib.hid (HWR.out _ hT2.drew)
  clear hn hT2 HWR HC1
  go_region_with (go_at_call 15; (with_reducible refine (HW2.out).mono ?_); rintro e w2 ⟨rfl, hS⟩; have HS2 := Lib.hid hS; clear hS)
  all_goals go_wp2_with fail
  all_goals go_end0
  all_goals exact ⟨rfl, HS2.out⟩
theorem rootNow_any (S : Stash w b A k ps W) (hk : k ≤ 10000000) (h1 : W.cell? ⟨r, 1, none⟩ = some (.pointer (some ⟨b, 0, none⟩))) :
    Calls Tryz.prog 108 #[.pointer (some ⟨r, 0, none⟩)] W fun e w' => e = .returned (.int .u64 (A.read 0 0).2.1) ∧ Stash w b (A.read 0 0).1 (k + 1) ps w' := by
  have HRD := Lib.hid (fun W' (hT : Frm.Turn [] W W') => read_h (S.still hT) hk 0 0 w64_zero (wf_small (by omega) (by omega)))
  have HT0 := Lib.hid (fun o => (Frm.Turn.refl [] W).alloc o)
  have HTR := Lib.hid (Frm.Turn.refl [] W)
  clear S
  generalize (A.read 0 0).1 = A' at HRD ⊢
  generalize (A.read 0 0).2.1 = x at HRD ⊢
  generalize (A.read 0 0).2.2 = y at HRD
  go_enter Tryz.func108, Tryz.ntmps108
  go_wp2_with (go_at_call 58; (with_reducible refine (HRD.out _ (by first | exact HTR.out | exact HT0.out _)).mono ?_); rintro e w1 ⟨rfl, hS⟩)
  go_ret
  exact ⟨rfl, hS⟩
end Hld
end Go.Proofs.YtpajafecodkndaaGreat
