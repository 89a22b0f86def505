/- follow, List, Handles: the entries from a cursor on. -/
import Derived.Test.YtmjdcpcndggflaaDoorHeadNodes
import Derived.Laws.Tables
set_option linter.unusedVariables false
set_option linter.unusedSimpArgs false
namespace Go.Proofs.YtmjdcpcndggflaaDoor
namespace Hed
open Go.RowKit Go.Maps Arn

def entCells (l : List (Int × Ent)) : List Value := l.flatMap fun x => [.int .i64 x.2.1, .int .u64 x.2.2.1, .int .u64 x.2.2.2]
theorem entCells_snoc (l : List (Int × Ent)) (h s n x : Int) : entCells (l ++ [(h, (s, n, x))]) = entCells l ++ [.int .i64 s, .int .u64 n, .int .u64 x] := by simp [entCells]
def hands (l : List (Int × Ent)) : List Int := l.map Prod.fst
theorem hands_snoc (l : List (Int × Ent)) (h : Int) (e : Ent) : u64s (hands (l ++ [(h, e)])) = u64s (hands l) ++ [.int .u64 h] := by simp [hands, u64s]
theorem under_ents : Tryd.prog.underlying 50 = some (.slice 26) := by kernel_rfl
theorem info_ent : (Tryd.prog.info? 26).map (fun i => (i.zero, i.size, i.bytes)) = some (some (.agg #[.int .i64 0, .int .u64 0, .int .u64 0]), 3, 24) := by kernel_rfl
/-- A row in memory: block R has the two slices. -/
structure RowS (w : World) (R : Nat) (f : Int → Option Ent) (c : Int) (pre : List (Int × Ent)) (h : Int) (ve vh : Value) (W : World) : Prop where
  blk : W.heap[R]? = some (.cells #[ve, vh] 80 (0, 0))
  ents : W.ownsRow w.heap.size 26 3 ve pre.length (entCells pre)
  hnds : W.ownsRow w.heap.size 22 1 vh pre.length (u64s (hands pre))
  mid : Mid f c pre h
  turn : Frm.Turn [] w W
theorem row_blk {W : World} {base n size : Nat} {e : TypeId} {v : Value} {xs : List Value} (h : W.ownsRow base e size v n xs) {k : Nat} (hk : v.ownBlock = some k) : ∃ cur, W.heap[k]? = some (.cells cur e (0, 0)) := by
  rcases h.2 with ⟨rfl, _⟩ | ⟨g, cap, cur, rfl, _, hg, _⟩
  · simp [Value.ownBlock] at hk
  · simp [Value.ownBlock] at hk
    subst hk
    exact ⟨cur, hg⟩
theorem RowS.re {w : World} {R : Nat} {f : Int → Option Ent} {c h : Int} {pre : List (Int × Ent)} {ve vh : Value} {W : World} (s : RowS w R f c pre h ve vh W) : ∀ k, ve.ownBlock = some k → k ≠ R := fun k hk e => by
  subst e
  obtain ⟨cur, hc⟩ := row_blk s.ents hk
  have := s.blk
  rw [hc] at this
  simp at this
theorem RowS.rh {w : World} {R : Nat} {f : Int → Option Ent} {c h : Int} {pre : List (Int × Ent)} {ve vh : Value} {W : World} (s : RowS w R f c pre h ve vh W) : ∀ k, vh.ownBlock = some k → k ≠ R := fun k hk e => by
  subst e
  obtain ⟨cur, hc⟩ := row_blk s.hnds hk
  have := s.blk
  rw [hc] at this
  simp at this
theorem RowS.apart {w : World} {R : Nat} {f : Int → Option Ent} {c h : Int} {pre : List (Int × Ent)} {ve vh : Value} {W : World} (s : RowS w R f c pre h ve vh W) : ∀ k, ve.ownBlock = some k → vh.ownBlock ≠ some k := fun k hk e => by
  obtain ⟨cur, hc⟩ := row_blk s.ents hk
  obtain ⟨cur', hc'⟩ := row_blk s.hnds e
  rw [hc] at hc'
  simp at hc'
theorem RowS.step {w : World} {R : Nat} {f : Int → Option Ent} {c h : Int} {pre : List (Int × Ent)} {ve vh : Value} {W W' : World} (s : RowS w R f c pre h ve vh W) (hT : Frm.Turn [] W W') : RowS w R f c pre h ve vh W' :=
  ⟨hT.keep s.blk (by simp), Frm.owns_turn s.ents hT (by simp), Frm.owns_turn s.hnds hT (by simp), s.mid, s.turn.trans hT (by simp)⟩
/-- An entry comes to the row of entries, its handle to that of handles. -/
theorem RowS.more {w : World} {R : Nat} {f : Int → Option Ent} {c h : Int} {pre : List (Int × Ent)} {ve vh ve' vh' : Value} {W W1 W3 : World} {o o' : Obj} {s n x : Int} (hR : w.heap.size ≤ R) (S : RowS w R f c pre h ve vh W) (h0 : h ≠ 0) (hp : pre.length < 1000) (hf : f h = some (s, n, x))
    (ho1 : W1.ownsRow w.heap.size 26 3 ve' (pre.length + 1) (entCells pre ++ [.int .i64 s, .int .u64 n, .int .u64 x])) (hg1 : (W.alloc o).grownBy W1 ve.ownBlock)
    (ho2 : W3.ownsRow w.heap.size 22 1 vh' (pre.length + 1) (u64s (hands pre) ++ [.int .u64 h])) (hg2 : ((W1.setCell ⟨R, 0, none⟩ ve').alloc o').grownBy W3 vh.ownBlock) :
    RowS w R f c (pre ++ [(h, (s, n, x))]) x ve' vh' (W3.setCell ⟨R, 1, none⟩ vh') := by
  have S2 := S.step ((Frm.Turn.refl [] W).alloc o)
  have G1 := Frm.Turn.of_grown hg1
  have b1 := G1.keep S2.blk (by simp; exact fun e => S.re R e rfl)
  have n1 := Frm.owns_turn S2.hnds G1 (fun k hk hk' => by simp at hk'; exact S.apart k hk' hk)
  have T2 : Frm.Turn [R] W1 (W1.setCell ⟨R, 0, none⟩ ve') := (Frm.Turn.refl [R] W1).setCell (.inl (by simp)) ve'
  have b2 : (W1.setCell ⟨R, 0, none⟩ ve').heap[R]? = some (.cells #[ve', vh] 80 (0, 0)) := by rw [Frm.heap_set _ _ _ _ _ _ _ b1]; simp
  have e2 := Frm.owns_turn ho1 T2 (fun k hk hk' => by simp at hk'; subst hk'; obtain ⟨cur, hc⟩ := row_blk ho1 hk; rw [b1] at hc; simp at hc)
  have n2 := Frm.owns_turn n1 T2 (fun k hk hk' => by simp at hk'; subst hk'; exact S.rh _ hk rfl)
  have T3 : Frm.Turn [] (W1.setCell ⟨R, 0, none⟩ ve') ((W1.setCell ⟨R, 0, none⟩ ve').alloc o') := (Frm.Turn.refl [] _).alloc o'
  have b3 := T3.keep b2 (by simp)
  have e3 := Frm.owns_turn e2 T3 (by simp)
  have n3 := Frm.owns_turn n2 T3 (by simp)
  have G2 := Frm.Turn.of_grown hg2
  have b4 := G2.keep b3 (by simp; exact fun e => S.rh R e rfl)
  have e4 := Frm.owns_turn e3 G2 (fun k hk hk' => by simp at hk'; obtain ⟨c1, h1⟩ := row_blk e3 hk; obtain ⟨c2, h2⟩ := row_blk n3 hk'; rw [h1] at h2; simp at h2)
  have T4 : Frm.Turn [R] W3 (W3.setCell ⟨R, 1, none⟩ vh') := (Frm.Turn.refl [R] W3).setCell (.inl (by simp)) vh'
  have b5 : (W3.setCell ⟨R, 1, none⟩ vh').heap[R]? = some (.cells #[ve', vh'] 80 (0, 0)) := by rw [Frm.heap_set _ _ _ _ _ _ _ b4]; simp
  refine ⟨b5, ?_, ?_, mid_step S.mid h0 hp hf, ?_⟩
  · rw [List.length_append, entCells_snoc]
    exact Frm.owns_turn e4 T4 (fun k hk hk' => by simp at hk'; subst hk'; obtain ⟨cur, hc⟩ := row_blk e4 hk; rw [b4] at hc; simp at hc)
  · rw [List.length_append, hands_snoc]
    exact Frm.owns_turn ho2 T4 (fun k hk hk' => by simp at hk'; subst hk'; obtain ⟨cur, hc⟩ := row_blk ho2 hk; rw [b4] at hc; simp at hc)
  · have hRw : ∀ k, k ∈ [R] → k ∈ ([] : List Nat) ∨ w.heap.size ≤ k := fun k hk => .inr (by simp at hk; subst hk; exact hR)
    exact ((((S2.turn.trans G1 (fun k hk => .inr (by simp at hk; exact (S.ents.lt k hk).1))).trans T2 hRw).trans T3 (by simp)).trans G2 (fun k hk => .inr (by simp at hk; exact (S.hnds.lt k hk).1))).trans T4 hRw
/-- Behind the first of the two. -/
theorem RowS.half {w : World} {R : Nat} {f : Int → Option Ent} {c h : Int} {pre : List (Int × Ent)} {ve vh ve' : Value} {W W1 : World} {o : Obj} {xs : List Value} (S : RowS w R f c pre h ve vh W)
    (ho1 : W1.ownsRow w.heap.size 26 3 ve' (pre.length + 1) xs) (hg1 : (W.alloc o).grownBy W1 ve.ownBlock) :
    W1.heap[R]? = some (.cells #[ve, vh] 80 (0, 0)) ∧ (W1.setCell ⟨R, 0, none⟩ ve').heap[R]? = some (.cells #[ve', vh] 80 (0, 0)) ∧ (W1.setCell ⟨R, 0, none⟩ ve').ownsRow w.heap.size 22 1 vh pre.length (u64s (hands pre)) ∧ Frm.Turn (R :: (ve.ownBlock.toList ++ vh.ownBlock.toList)) W (W1.setCell ⟨R, 0, none⟩ ve') := by
  have S2 := S.step ((Frm.Turn.refl [] W).alloc o)
  have G1 := Frm.Turn.of_grown hg1
  have b1 := G1.keep S2.blk (by simp; exact fun e => S.re R e rfl)
  have n1 := Frm.owns_turn S2.hnds G1 (fun k hk hk' => by simp at hk'; exact S.apart k hk' hk)
  have T2 : Frm.Turn [R] W1 (W1.setCell ⟨R, 0, none⟩ ve') := (Frm.Turn.refl [R] W1).setCell (.inl (by simp)) ve'
  have b2 : (W1.setCell ⟨R, 0, none⟩ ve').heap[R]? = some (.cells #[ve', vh] 80 (0, 0)) := by rw [Frm.heap_set _ _ _ _ _ _ _ b1]; simp
  have n2 := Frm.owns_turn n1 T2 (fun k hk hk' => by simp at hk'; subst hk'; exact S.rh _ hk rfl)
  refine ⟨b1, b2, n2, ?_⟩
  have A1 : Frm.Turn (R :: (ve.ownBlock.toList ++ vh.ownBlock.toList)) W (W.alloc o) := ((Frm.Turn.refl [] W).alloc o).mono (by simp)
  exact (A1.trans (G1.mono (G := R :: (ve.ownBlock.toList ++ vh.ownBlock.toList)) (by simp +contextual)) (fun k hk => .inl hk)).trans (T2.mono (by simp)) (fun k hk => .inl hk)
theorem RowS.rest {w : World} {R : Nat} {f : Int → Option Ent} {c h : Int} {pre : List (Int × Ent)} {ve vh ve' : Value} {W W2 W4 : World} {o' : Obj} (S : RowS w R f c pre h ve vh W) (b3 : W2.heap[R]? = some (.cells #[ve', vh] 80 (0, 0))) (T : Frm.Turn (R :: (ve.ownBlock.toList ++ vh.ownBlock.toList)) W W2) (hg2 : (W2.alloc o').grownBy W4 vh.ownBlock) :
    W4.heap[R]? = some (.cells #[ve', vh] 80 (0, 0)) ∧ Frm.Turn (R :: (ve.ownBlock.toList ++ vh.ownBlock.toList)) W W4 := by
  have A2 : Frm.Turn (R :: (ve.ownBlock.toList ++ vh.ownBlock.toList)) W2 (W2.alloc o') := ((Frm.Turn.refl [] W2).alloc o').mono (by simp)
  refine ⟨(Frm.Turn.of_grown hg2).keep (((Frm.Turn.refl [] W2).alloc o').keep b3 (by simp)) (by simp; exact fun e => S.rh R e rfl), ?_⟩
  exact (T.trans A2 (fun k hk => .inl hk)).trans ((Frm.Turn.of_grown hg2).mono (G := R :: (ve.ownBlock.toList ++ vh.ownBlock.toList)) (by simp +contextual)) (fun k hk => .inl hk)
theorem RowS.out {w : World} {R : Nat} {f : Int → Option Ent} {c h : Int} {pre : List (Int × Ent)} {ve vh : Value} {W : World} (S : RowS w R f c pre h ve vh W) {k : Nat} (hR : k ≠ R) (hk : W.heap.size ≤ k ∨ ∃ o, W.heap[k]? = some o ∧ ∀ cs t, (t = 26 ∨ t = 22) → o ≠ .cells cs t (0, 0)) : k ∉ R :: (ve.ownBlock.toList ++ vh.ownBlock.toList) := by
  intro hm
  simp at hm
  rcases hm with e | e | e
  · exact hR e
  · obtain ⟨cur, hc⟩ := row_blk S.ents e
    rcases hk with h1 | ⟨o, ho, hn⟩
    · have := (Array.getElem?_eq_some_iff.1 hc).1; omega
    · rw [hc] at ho; exact hn cur _ (.inl rfl) (Option.some.inj ho).symm
  · obtain ⟨cur, hc⟩ := row_blk S.hnds e
    rcases hk with h1 | ⟨o, ho, hn⟩
    · have := (Array.getElem?_eq_some_iff.1 hc).1; omega
    · rw [hc] at ho; exact hn cur _ (.inr rfl) (Option.some.inj ho).symm
theorem EAt.obj {w : World} {m n : Nat} {f : Int → Option Ent} (h : EAt w m n f) : ∃ es cl, w.heap[m]? = some (.map es cl) := by
  obtain ⟨D, ⟨es, cl, hb, _⟩, _⟩ := h.rd
  exact ⟨_, _, hb⟩
theorem news3 (W : World) (s n x : Int) : ∀ j u, [Value.int .i64 s, .int .u64 n, .int .u64 x][j]? = some u → (W.alloc (.cells #[.int .i64 s, .int .u64 n, .int .u64 x] 26)).cell? ((⟨W.heap.size, 0, none⟩ : Addr).add j) = some u := by
  intro j u hj
  have h := heap_new W (.cells #[.int .i64 s, .int .u64 n, .int .u64 x] 26)
  have hadd : (⟨W.heap.size, 0, none⟩ : Addr).add j = ⟨W.heap.size, j, none⟩ := by unfold Addr.add; split <;> simp_all
  rw [hadd, Frm.cell_row _ _ _ _ _ _ h]
  simpa using hj
/-- How many entries the row at R tells. -/
def rowLen (R : Nat) (W : World) : Nat := match W.cell? ⟨R, 0, none⟩ with
  | some (.slice _ n _) => n
  | _ => 0
theorem RowS.len {w : World} {R : Nat} {f : Int → Option Ent} {c h : Int} {pre : List (Int × Ent)} {ve vh : Value} {W : World} (S : RowS w R f c pre h ve vh W) : rowLen R W = pre.length := by
  obtain ⟨a, c', rfl⟩ := Frm.row_form S.ents
  have := (Ops.blk2 S.blk).1.1
  unfold rowLen
  rw [this]
/-- How follow answers. -/
def FollowEnd (w : World) (o : Option (List (Int × Ent))) (e : Ending) (w' : World) : Prop :=
  (o = none ∧ e = .returned (.tuple #[.agg #[.slice none 0 0, .slice none 0 0], .bool false]) ∧ Frm.Turn [] w w') ∨
  ∃ pre ve vh, o = some pre ∧ e = .returned (.tuple #[.agg #[ve, vh], .bool true]) ∧ w'.ownsRow w.heap.size 26 3 ve pre.length (entCells pre) ∧ w'.ownsRow w.heap.size 22 1 vh pre.length (u64s (hands pre)) ∧ Frm.Turn [] w w'
/-- What entriesOf hands back, as a value that reads as f. -/
structure MapOf (w : World) (mv : Value) (f : Int → Option Ent) (W : World) : Prop where
  look : ∀ W', Frm.Turn [] W W' → ∀ k, W64 k → (Instr.lookup 97 mv (.int .u64 k) true).run Tryd.prog W' = .ok (.tuple #[entV ((f k).getD zeroE), .bool (f k).isSome]) W'
  form : mv = .map none ∨ ∃ m, mv = .map (some m) ∧ w.heap.size ≤ m
set_option maxRecDepth 100000 in
set_option maxHeartbeats 4000000 in
theorem follow_walk (av : Value) (c : Int) (f : Int → Option Ent) (w : World) (hc : W64 c) (hf64 : ∀ k e, f k = some e → W64 e.2.2)
    (hE : ∀ W, Frm.Turn [] w W → Calls Tryd.prog 47 #[av] W fun e w' => ∃ m n, e = .returned (.map (some m)) ∧ EAt w' m n f ∧ W.heap.size ≤ m ∧ Frm.Turn [] W w') :
    Calls Tryd.prog 33 #[av, .int .u64 c] w fun e w' => FollowEnd w (chainF f 1000 c) e w' := by
  obtain ⟨u0, hu0, uz0, uz1, uz2⟩ := info_parts info_u64
  obtain ⟨i0, hi0, hz0, hz1, hz2⟩ := info_parts info_ent
  have T0 : Frm.Turn [] w ((w.alloc (.cells #[.slice none 0 0, .slice none 0 0] 80)).alloc (.cells #[.slice none 0 0, .slice none 0 0] 80)) := ((Frm.Turn.refl [] w).alloc _).alloc _
  have HE := Lib.hid (hE _ T0)
  have HB0 : Hid (((w.alloc (.cells #[.slice none 0 0, .slice none 0 0] 80)).alloc (.cells #[.slice none 0 0, .slice none 0 0] 80)).heap[w.heap.size]? = some (.cells #[.slice none 0 0, .slice none 0 0] 80 (0, 0))) := Lib.hid (Ops.heap_below w _ _)
  have HB1 : Hid (((w.alloc (.cells #[.slice none 0 0, .slice none 0 0] 80)).alloc (.cells #[.slice none 0 0, .slice none 0 0] 80)).heap[w.heap.size + 1]? = some (.cells #[.slice none 0 0, .slice none 0 0] 80 (0, 0))) := Lib.hid (Ops.heap_last w _ _)
  have HT0 := Lib.hid T0
  have HF := Lib.hid hf64
  clear hE T0 hf64
  go_enter Tryd.func33, Tryd.ntmps33
  go_wp2_with (go_at_call 47; (with_reducible refine (HE.out).mono ?_); rintro e W0 ⟨m, mn, rfl, hM, hmb, hT⟩; have HM := Lib.hid hM; have HT := Lib.hid hT; have HMB := Lib.hid hmb; clear hM hT hmb)
  go_loopw [8] (fun hv wr => ∃ (pre : List (Int × Ent)) (h : Int) (ve vh : Value), hv = .int .u64 h ∧ W64 h ∧ pre.length ≤ 1000 ∧ RowS w (w.heap.size + 1) f c pre h ve vh wr ∧ EAt wr m mn f ∧ wr.heap[w.heap.size]? = some (.cells #[.slice none 0 0, .slice none 0 0] 80 (0, 0)))
    (fun _ wr => 1001 - rowLen (w.heap.size + 1) wr)
  case atStart =>
    exact ⟨[], c, .slice none 0 0, .slice none 0 0, rfl, hc, by simp, ⟨HT.out.keep HB1.out (by simp), World.ownsRow_nil _ _ _ _, World.ownsRow_nil _ _ _ _, mid_start f c, HT0.out.trans HT.out (by simp)⟩, HM.out, HT.out.keep HB0.out (by simp)⟩
  case round =>
    obtain ⟨pre, h, ve, vh, rfl, h64, hpl, hS, hEa, hres⟩ := hrel
    obtain ⟨ao, ac, rfl⟩ := Frm.row_form hS.ents
    obtain ⟨bo, bc, rfl⟩ := Frm.row_form hS.hnds
    have hsz := hS.turn.size
    have hRl : w.heap.size + 1 < wr.heap.size := (Array.getElem?_eq_some_iff.1 hS.blk).1
    obtain ⟨⟨r0, r1⟩, q0, q1⟩ := Ops.blk2 hS.blk
    by_cases hz : h = 0
    · subst hz
      have HC := Lib.hid (mid_end hS.mid)
      have HS := Lib.hid hS
      have HRES := Lib.hid hres
      obtain ⟨⟨e0, e1⟩, f0, f1⟩ := Ops.blk2 hres
      clear hS hEa hres
      go_wp2
      refine bodyPost_ret (v := .tuple #[.agg #[.slice ao pre.length ac, .slice bo pre.length bc], .bool true]) (by simp [results, Tryd.results33, go_sem, e0, e1]) rfl ?_
      have T9 : Frm.Turn [] w ((wr.setCell ⟨w.heap.size, 0, none⟩ (.slice ao pre.length ac)).setCell ⟨w.heap.size, 1, none⟩ (.slice bo pre.length bc)) := (HS.out.turn.setCell (p := ⟨w.heap.size, 0, none⟩) (.inr (Nat.le_refl _)) _).setCell (p := ⟨w.heap.size, 1, none⟩) (.inr (Nat.le_refl _)) _
      have Tr : Frm.Turn [w.heap.size] wr ((wr.setCell ⟨w.heap.size, 0, none⟩ (.slice ao pre.length ac)).setCell ⟨w.heap.size, 1, none⟩ (.slice bo pre.length bc)) := ((Frm.Turn.refl [w.heap.size] wr).setCell (p := ⟨w.heap.size, 0, none⟩) (.inl (by simp)) _).setCell (p := ⟨w.heap.size, 1, none⟩) (.inl (by simp)) _
      refine .inr ⟨pre, _, _, HC.out, rfl, Frm.owns_turn HS.out.ents Tr (fun k hk hk' => ?_), Frm.owns_turn HS.out.hnds Tr (fun k hk hk' => ?_), T9⟩
      · simp at hk'; subst hk'; obtain ⟨cur, h1⟩ := row_blk HS.out.ents hk; rw [HRES.out] at h1; simp at h1
      · simp at hk'; subst hk'; obtain ⟨cur, h1⟩ := row_blk HS.out.hnds hk; rw [HRES.out] at h1; simp at h1
    · have t0 : (h != 0) = true := by simpa using hz
      have hlk := hEa.look2 h64
      cases hf : f h with
      | none =>
        rw [hf] at hlk
        dsimp only [entV, Option.getD_none, Option.isSome_none] at hlk
        have HC := Lib.hid (mid_none hS.mid hz hf)
        have HS := Lib.hid hS
        obtain ⟨⟨e0, e1⟩, f0, f1⟩ := Ops.blk2 (((Frm.Turn.refl [] wr).alloc (.cells #[.int .i64 0, .int .u64 0, .int .u64 0] 26)).keep hres (by simp))
        clear hS hEa hres hf
        go_wp2
        refine bodyPost_ret (v := .tuple #[.agg #[.slice none 0 0, .slice none 0 0], .bool false]) (by simp [results, Tryd.results33, go_sem, e0, e1]) rfl ?_
        exact .inl ⟨HC.out, rfl, ((HS.out.turn.alloc _).setCell (p := ⟨w.heap.size, 0, none⟩) (.inr (Nat.le_refl _)) _).setCell (p := ⟨w.heap.size, 1, none⟩) (.inr (Nat.le_refl _)) _⟩
      | some en =>
        obtain ⟨s, n, x⟩ := en
        rw [hf] at hlk
        dsimp only [entV, Option.getD_some, Option.isSome_some] at hlk
        by_cases hp : pre.length = 1000
        · have HC := Lib.hid (mid_full hS.mid hz hp)
          have HS := Lib.hid hS
          obtain ⟨⟨e0, e1⟩, f0, f1⟩ := Ops.blk2 (((Frm.Turn.refl [] wr).alloc (.cells #[.int .i64 s, .int .u64 n, .int .u64 x] 26)).keep hres (by simp))
          have hp' : ((pre.length : Nat) : Int) = 1000 := by omega
          clear hS hEa hres hf hp
          go_wp2
          refine bodyPost_ret (v := .tuple #[.agg #[.slice none 0 0, .slice none 0 0], .bool false]) (by simp [results, Tryd.results33, go_sem, e0, e1]) rfl ?_
          exact .inl ⟨HC.out, rfl, ((HS.out.turn.alloc _).setCell (p := ⟨w.heap.size, 0, none⟩) (.inr (Nat.le_refl _)) _).setCell (p := ⟨w.heap.size, 1, none⟩) (.inr (Nat.le_refl _)) _⟩
        · have hpl' : pre.length < 1000 := by omega
          have hpe : (((pre.length : Nat) : Int) == 1000) = false := by simp; omega
          have hx64 := HF.out h _ hf
          have HS := Lib.hid hS
          have HEA := Lib.hid hEa
          have HRES := Lib.hid hres
          have HFF := Lib.hid hf
          clear hS hEa hres hf
          have HW1 : Hid (∀ W1, W1 = wr.alloc (entO s n x) → RowS w (w.heap.size + 1) f c pre h (.slice ao pre.length ac) (.slice bo pre.length bc) W1 ∧ EAt W1 m mn f ∧ W1.heap[w.heap.size]? = some (.cells #[.slice none 0 0, .slice none 0 0] 80 (0, 0)) ∧ W1.heap[wr.heap.size]? = some (entO s n x) ∧ W1.heap.size = wr.heap.size + 1) := Lib.hid fun W1 e => by
            subst e
            have T := (Frm.Turn.refl [] wr).alloc (entO s n x)
            exact ⟨HS.out.step T, HEA.out.turn T (by simp), T.keep HRES.out (by simp), heap_new wr _, World.size_alloc _ _⟩
          unfold entO at HW1
          go_upto_region 8 with fail
          obtain ⟨W1, HWE⟩ : ∃ W1, Hid (W1 = wr.alloc (.cells #[.int .i64 s, .int .u64 n, .int .u64 x] 26)) := ⟨_, Lib.hid rfl⟩
          rw [← HWE.out]
          obtain ⟨hS1, hE1, hR1, hN1, hsz1⟩ := HW1.out W1 HWE.out
          obtain ⟨⟨p0, p1⟩, s0, s1⟩ := Ops.blk2 hS1.blk
          obtain ⟨⟨n0, n1, n2⟩, m0, m1, m2⟩ := blk3 hN1
          clear HW1 HWE r0 r1 q0 q1 hlk
          have HS1 := Lib.hid hS1
          have HE1 := Lib.hid hE1
          have HR1 := Lib.hid hR1
          have HN1 := Lib.hid hN1
          have HSZ1 := Lib.hid hsz1
          clear hS1 hE1 hR1 hN1 hsz1
          have hb1 := HS1.out.turn.size
          go_upto_region 9 with (at_builtin; go_must (refine wpList_append_own_at _ rfl _ _ 50 rfl w.heap.size 26 i0 (.agg #[.int .i64 0, .int .u64 0, .int .u64 0]) 3 24 under_ents hi0 hz0 hz1 hz2 rfl (by decide) (.slice ao pre.length ac) pre.length (entCells pre) rfl (Frm.owns_turn HS1.out.ents ((Frm.Turn.refl [] W1).alloc _) (by simp)) ⟨W1.heap.size, 0, none⟩ 1 1 [.int .i64 s, .int .u64 n, .int .u64 x] rfl rfl (news3 _ _ _ _) (by simp [Value.oneCell']) (by unfold maxLen; omega) (by omega) (by simp; omega) ?_); intro v1 w3 hown3 hg3 _ hl3; obtain ⟨ao1, ac1, rfl⟩ := Frm.row_form hown3; obtain ⟨hb2, hb3, hn3, hT3⟩ := RowS.half HS1.out hown3 hg3; obtain ⟨⟨y0, y1⟩, z0, z1⟩ := Ops.blk2 hb2; have HG3 := Lib.hid (And.intro hown3 hg3); have HB3 := Lib.hid (And.intro hb3 (And.intro hn3 hT3)); clear hown3 hg3 hl3 hb2 hb3 hn3 hT3)
          obtain ⟨W2, HWE2⟩ : ∃ W2, Hid (W2 = w3.setCell ⟨w.heap.size + 1, 0, none⟩ (.slice ao1 (pre.length + 1) ac1)) := ⟨_, Lib.hid rfl⟩
          rw [← HWE2.out] at HB3 ⊢
          obtain ⟨⟨x0, x1⟩, l0, l1⟩ := Ops.blk2 HB3.out.1
          clear p0 p1 s0 s1 n0 n1 n2 m0 m1 m2 y0 y1 z0 z1
          have hb2 := HB3.out.2.2.size
          have hout : wr.heap.size ∉ (w.heap.size + 1) :: ((Value.slice ao pre.length ac).ownBlock.toList ++ (Value.slice bo pre.length bc).ownBlock.toList) := HS.out.out (by omega) (.inl (Nat.le_refl _))
          have HOUT := Lib.hid hout
          clear hout
          go_wp2_with (at_builtin; go_must (refine wpList_append_own_at _ rfl _ _ 28 rfl w.heap.size 22 u0 (.int .u64 0) 1 8 under_u64s hu0 uz0 uz1 uz2 rfl (by decide) (.slice bo pre.length bc) pre.length (u64s (hands pre)) rfl (Frm.owns_turn HB3.out.2.1 ((Frm.Turn.refl [] W2).alloc _) (by simp)) ⟨W2.heap.size, 0, none⟩ 1 1 [.int .u64 h] rfl rfl (cell_one_new _ _ _) (by simp [Value.oneCell']) (by unfold maxLen; omega) (by omega) (by simp; omega) ?_); intro v2 w4 hown4 hg4 _ hl4; obtain ⟨bo1, bc1, rfl⟩ := Frm.row_form hown4; obtain ⟨hb4, hT4⟩ := RowS.rest HS1.out HB3.out.1 HB3.out.2.2 hg4; obtain ⟨⟨y0, y1⟩, z0, z1⟩ := Ops.blk2 hb4; obtain ⟨⟨n0, n1, n2⟩, _⟩ := blk3 (hT4.keep HN1.out HOUT.out); rw [HWE2.out] at hg4; have HG4 := Lib.hid (And.intro hown4 hg4); have HT4 := Lib.hid hT4; clear hown4 hg4 hl4 hb4 hT4)
          have hfin := RowS.more (by omega) HS1.out hz hpl' HFF.out HG3.out.1 HG3.out.2 HG4.out.1 HG4.out.2
          have T5 : Frm.Turn ((w.heap.size + 1) :: ((Value.slice ao pre.length ac).ownBlock.toList ++ (Value.slice bo pre.length bc).ownBlock.toList)) W1 (w4.setCell ⟨w.heap.size + 1, 1, none⟩ (.slice bo1 (pre.length + 1) bc1)) := HT4.out.setCell (p := ⟨w.heap.size + 1, 1, none⟩) (.inl (by simp)) _
          obtain ⟨es, cl, hmo⟩ := HE1.out.obj
          have hmr : m ≠ w.heap.size + 1 := by have := HMB.out; simp at this; omega
          refine ⟨⟨pre ++ [(h, (s, n, x))], x, _, _, rfl, hx64, by simp; omega, hfin, HE1.out.turn T5 (HS1.out.out hmr (.inr ⟨_, hmo, fun cs t _ e => by cases e⟩)), T5.keep HR1.out (HS1.out.out (by omega) (.inr ⟨_, HR1.out, fun cs t ht e => by rcases ht with rfl | rfl <;> simp at e⟩))⟩, ?_⟩
          rw [hfin.len, HS.out.len]
          simp
          omega
end Hed
end Go.Proofs.YtmjdcpcndggflaaDoor
