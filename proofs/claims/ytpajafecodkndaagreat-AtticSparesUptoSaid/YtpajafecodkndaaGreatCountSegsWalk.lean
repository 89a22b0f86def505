/- An arena with its segments, and the document's, beside blocks that both leave alone. -/
/- Segments of law 12: an arena with so many segments, and the document's. -/
import Derived.Test.YtpajafecodkndaaGreatCountCalls3
import Derived.Test.YtpajafecodkndaaGreatArenaRefAll
import Derived.Deep.AppendSrc
import Derived.Deep.MidRow
import Derived.Great.BuildSlice
set_option linter.unusedVariables false
set_option linter.unusedSimpArgs false
namespace Go.Proofs.YtpajafecodkndaaGreat
namespace Cnt
open Go.RowKit Go.Maps Arn Pac Clm

variable {w W W' : World} {b n k : Nat} {K : List Nat} {A B : Ar}
/-- What a call of the arena leaves, beside the blocks K. -/
theorem kin_after {M : Mem} {m : Nat} {A' : Ar} (h1 : Sin w b M A n W) (h2 : ∀ k, k ∈ K → k ∉ M.foot b ∧ k < W.heap.size) (ha : After w b M A' m W W') : Kin w b K A' m W' ∧ But w K none W W' := by
  obtain ⟨M', k1, k4, k5⟩ := ha
  have hsz := k4.size
  refine ⟨⟨M', k1, fun k hk => ⟨fun hk' => ?_, by have := (h2 k hk).2; omega⟩⟩, ⟨_, k4, fun k hk _ hk' => (h2 k hk).1 hk', fun k hk => h1.new k hk⟩⟩
  rcases k5 k hk' with e1 | e1
  · exact (h2 k hk).1 e1
  · have := (h2 k hk).2; omega
theorem kin_lay (h : Kin w b K A n W) (hn : n ≤ 10000000) {v : Value} {ws : List Int} (hv : WordsAt W v ws) (ha : ∀ k, v.ownBlock = some k → k ∈ K) (hw : ∀ x, x ∈ ws → W64 x) :
    Calls Tryz.prog 10 #[.pointer (some ⟨b, 0, none⟩), v] W fun e w' => e = .returned (.tuple #[.int .u64 (A.lay ws).2.1, .int .i64 (A.lay ws).2.2]) ∧ Kin w b K (A.lay ws).1 (n + 1) w' ∧ But w K none W w' := by
  obtain ⟨M, h1, h2⟩ := h
  exact (sin_lay h1 (by omega) hv (fun _ k hk hk' => (h2 k (ha k hk)).1 hk') hw).mono fun e w' ⟨he, ha⟩ => ⟨he, kin_after h1 h2 ha⟩
theorem kin_read (h : Kin w b K A n W) (hn : n ≤ 10000000) (blk i : Int) (hb : W64 blk) (hi : (Lit.int .i64 i).wf = true) :
    Calls Tryz.prog 58 #[.pointer (some ⟨b, 0, none⟩), .agg #[.int .u64 blk, .int .i64 i]] W fun e w' => e = .returned (.tuple #[.int .u64 (A.read blk i).2.1, .int .i64 (A.read blk i).2.2]) ∧ Kin w b K (A.read blk i).1 (n + 1) w' ∧ But w K none W w' := by
  obtain ⟨M, h1, h2⟩ := h
  exact (sin_read h1 (by omega) blk i hb hi).mono fun e w' ⟨he, ha⟩ => ⟨he, kin_after h1 h2 ha⟩
theorem but_refl : But w K none W W := But.of (Frm.Turn.refl [] W)
theorem kin_adds {K' : List Nat} (h : Kin w b K A n W) (ht : Frm.Turn [] W W') (hk : ∀ k, k ∈ K' → k ∈ K ∨ (W.heap.size ≤ k ∧ k < W'.heap.size)) : Kin w b K' A n W' := by
  obtain ⟨M, h3, h4⟩ := h
  have := ht.size
  refine ⟨M, h3.step ht, fun j hj => ?_⟩
  rcases hk j hj with hj | hj
  · exact ⟨(h4 j hj).1, by have := (h4 j hj).2; omega⟩
  · exact ⟨fun hk => by have := h3.lt hk; omega, hj.2⟩
theorem row_set {W : World} {k : Nat} {t : TypeId} {cs : Array Value} (cs' : Array Value) (h : W.heap[k]? = some (.cells cs t (0, 0))) : (W.setRow k cs').heap[k]? = some (.cells cs' t (0, 0)) := by
  unfold World.setRow
  simp only [Array.getElem?_modify, if_pos, h, Option.map_some]
/-- The handles, as cells. -/
def hsV (n : Nat) : List Value := (List.range n).map fun g => .int .u64 (hS g)
theorem hsV_succ (n : Nat) : hsV (n + 1) = hsV n ++ [.int .u64 (hS n)] := by simp [hsV, List.range_succ]
theorem hsV_get {n g : Nat} (h : g < n) : (hsV n)[g]? = some (.int .u64 (hS g)) := by simp [hsV, h]
/-- Two arenas: the program's (A) at b, the document's (B) by value at mb; the row of handles v; blocks X besides, that lie as they lay. -/
structure SegM (w : World) (b mb : Nat) (X : List (Nat × Obj)) (CS : Array Value) (G : List Nat) (A B : Ar) (k g : Nat) (v : Value) (W : World) : Prop where
  kin : Kin w b (X.map Prod.fst ++ mb :: (G ++ v.ownBlock.toList)) A k W
  ref : RefS W B (.agg CS) G
  own : W.heap[mb]? = some (.cells CS 37 (0, 0))
  row : W.ownsRow w.heap.size 31 1 v g (hsV g)
  mbl : w.heap.size ≤ mb
  gl : ∀ q, q ∈ G → w.heap.size ≤ q ∧ q ≠ mb
  vn : ∀ q, v.ownBlock = some q → q ≠ mb ∧ q ∉ G
  xs : ∀ p, p ∈ X → W.heap[p.1]? = some p.2 ∧ p.1 ≠ mb ∧ v.ownBlock ≠ some p.1 ∧ p.1 ∉ G
variable {mb g : Nat} {X : List (Nat × Obj)} {CS : Array Value} {G : List Nat} {v : Value}
theorem SegM.in_x (S : SegM w b mb X CS G A B k g v W) {p : Nat × Obj} (h : p ∈ X) : p.1 ∈ X.map Prod.fst ++ mb :: (G ++ v.ownBlock.toList) := List.mem_append_left _ (List.mem_map_of_mem h)
theorem SegM.in_mb (S : SegM w b mb X CS G A B k g v W) : mb ∈ X.map Prod.fst ++ mb :: (G ++ v.ownBlock.toList) := by simp
theorem SegM.in_g (S : SegM w b mb X CS G A B k g v W) {q : Nat} (h : q ∈ G) : q ∈ X.map Prod.fst ++ mb :: (G ++ v.ownBlock.toList) := by simp [h]
theorem SegM.in_v (S : SegM w b mb X CS G A B k g v W) {q : Nat} (h : v.ownBlock = some q) : q ∈ X.map Prod.fst ++ mb :: (G ++ v.ownBlock.toList) := by simp [h]
theorem SegM.step (S : SegM w b mb X CS G A B k g v W) (ht : Frm.Turn [] W W') : SegM w b mb X CS G A B k g v W' :=
  ⟨S.kin.step ht, S.ref.turn ht (by simp), ht.keep S.own (by simp), Frm.owns_turn S.row ht (by simp), S.mbl, S.gl, S.vn, fun p hp => ⟨ht.keep (S.xs p hp).1 (by simp), (S.xs p hp).2⟩⟩
theorem SegM.add (S : SegM w b mb X CS G A B k g v W) (ht : Frm.Turn [] W W') {x : Nat} {o : Obj} (h1 : W.heap.size ≤ x) (h2 : W'.heap[x]? = some o) : SegM w b mb ((x, o) :: X) CS G A B k g v W' := by
  have S' := S.step ht
  refine ⟨S.kin.add ht h1 (Array.getElem?_eq_some_iff.1 h2).1, S'.ref, S'.own, S'.row, S.mbl, S.gl, S.vn, fun p hp => ?_⟩
  rcases List.mem_cons.1 hp with rfl | hp
  · exact ⟨h2, fun e => by have := S.kin.lt S.in_mb; dsimp only at e; omega, fun e => by have := S.kin.lt (S.in_v e); dsimp only at this; omega, fun e => by have := S.kin.lt (S.in_g e); dsimp only at this; omega⟩
  · exact S'.xs p hp
theorem SegM.less {x : Nat × Obj} (S : SegM w b mb (x :: X) CS G A B k g v W) : SegM w b mb X CS G A B k g v W := ⟨S.kin.sub (fun q hq => List.mem_cons_of_mem _ hq), S.ref, S.own, S.row, S.mbl, S.gl, S.vn, fun p hp => S.xs p (List.mem_cons_of_mem _ hp)⟩
/-- Behind a call of the program's arena. -/
theorem SegM.but {A' : Ar} {k' : Nat} (S : SegM w b mb X CS G A B k g v W) (hk : Kin w b (X.map Prod.fst ++ mb :: (G ++ v.ownBlock.toList)) A' k' W') (hb : But w (X.map Prod.fst ++ mb :: (G ++ v.ownBlock.toList)) none W W') : SegM w b mb X CS G A' B k' g v W' := by
  obtain ⟨F, hT, h1, h2⟩ := hb
  exact ⟨hk, S.ref.turn hT (fun q hq => h1 q (S.in_g hq) (by simp)), hT.keep S.own (h1 mb S.in_mb (by simp)), Frm.owns_turn S.row hT (fun q hq => h1 q (S.in_v hq) (by simp)), S.mbl, S.gl, S.vn, fun p hp => ⟨hT.keep (S.xs p hp).1 (h1 p.1 (S.in_x hp) (by simp)), (S.xs p hp).2⟩⟩
/-- Behind a call of the document's, and what it told is put where it stood. -/
theorem SegM.told {B' : Ar} {CS' : Array Value} {G' : List Nat} (S : SegM w b mb X CS G A B k g v W) (hT : Frm.Turn [] W W') (hR : RefS W' B' (.agg CS') G') (hG : ∀ q, q ∈ G' → q ∈ G ∨ (W.heap.size ≤ q ∧ q < W'.heap.size)) : SegM w b mb X CS' G' A B' k g v (W'.setRow mb CS') ∧ Frm.Turn [mb] W' (W'.setRow mb CS') := by
  have S' := S.step hT
  have hTm : Frm.Turn [mb] W' (W'.setRow mb CS') := setRow_turn (Frm.Turn.refl _ _) (.inl (by simp)) CS'
  have hml : mb < W.heap.size := S.kin.lt S.in_mb
  have hgm : ∀ q, q ∈ G' → w.heap.size ≤ q ∧ q ≠ mb := fun q hq => by
    rcases hG q hq with h | h
    · exact S.gl q h
    · exact ⟨by have := S.kin.turn.size; omega, by omega⟩
  refine ⟨⟨?_, hR.turn hTm (fun q hq => by simpa using (hgm q hq).2), row_set CS' S'.own, Frm.owns_turn S'.row hTm (fun q hq => by simpa using (S.vn q hq).1), S.mbl, hgm, fun q hq => ⟨(S.vn q hq).1, fun hq' => ?_⟩, fun p hp => ⟨hTm.keep (S'.xs p hp).1 (by simpa using (S.xs p hp).2.1), (S.xs p hp).2.1, (S.xs p hp).2.2.1, fun h => by
    rcases hG _ h with h | h
    · exact (S.xs p hp).2.2.2 h
    · have := S.kin.lt (S.in_x hp); omega⟩⟩, hTm⟩
  · refine Kin.poke (kin_adds S.kin hT (K' := X.map Prod.fst ++ mb :: (G' ++ v.ownBlock.toList)) (fun q hq => ?_)) hTm (fun q hq => by simp at hq; subst hq; exact ⟨by simp, S.mbl⟩)
    simp only [List.mem_append, List.mem_cons] at hq ⊢
    rcases hq with h | h | h | h
    · exact .inl (.inl h)
    · exact .inl (.inr (.inl h))
    · rcases hG q h with h | h
      · exact .inl (.inr (.inr (.inl h)))
      · exact .inr h
    · exact .inl (.inr (.inr (.inr h)))
  · rcases hG q hq' with h | h
    · exact (S.vn q hq).2 h
    · have := S.kin.lt (S.in_v hq); omega
/-- A handle is put behind the others. -/
theorem SegM.grow {W1 W3 : World} {v' : Value} (S : SegM w b mb X CS G A B k g v W) (h1 : Frm.Turn [] W W1) (h3 : W1.grownBy W3 v.ownBlock) (hl : v'.ownBlock = v.ownBlock ∨ v'.ownBlock = some W1.heap.size) (ho : W3.ownsRow w.heap.size 31 1 v' (g + 1) (hsV g ++ [.int .u64 (hS g)])) :
    SegM w b mb X CS G A B k (g + 1) v' W3 := by
  have S1 := S.step h1
  have hT3 := Frm.Turn.of_grown h3
  have hv : ∀ q, v.ownBlock = some q → w.heap.size ≤ q := fun q hq => (S.row.lt q hq).1
  have k3 := S1.kin.poke hT3 (fun q hq => by simp at hq; exact ⟨S.in_v hq, hv q hq⟩)
  have hnew : ∀ q, q < W.heap.size → some q ≠ some W1.heap.size := fun q hq e => by cases e; have := h1.size; omega
  have hn : ∀ q, v'.ownBlock = some q → q ≠ mb ∧ q ∉ G := fun q hq => by
    rcases hl with e | e
    · exact S.vn q (by rw [← e]; exact hq)
    · rw [e] at hq
      exact ⟨fun h => hnew mb (S.kin.lt S.in_mb) (by rw [← h, hq]), fun h => hnew q (S.kin.lt (S.in_g h)) hq.symm⟩
  refine ⟨?_, S1.ref.turn hT3 (fun q hq hq' => by simp at hq'; exact (S.vn q hq').2 hq), hT3.keep S1.own (fun h => by simp at h; exact (S.vn mb h).1 rfl), by rw [hsV_succ]; exact ho, S.mbl, S.gl, hn, fun p hp => ⟨hT3.keep (S1.xs p hp).1 (fun h => by simp at h; exact (S.xs p hp).2.2.1 h), (S.xs p hp).2.1, ?_, (S.xs p hp).2.2.2⟩⟩
  · rcases hl with e | e
    · rw [e]; exact k3
    · obtain ⟨M, m1, m2⟩ := S1.kin
      refine ⟨M, m1.apart hT3 (fun q hq hq' => ?_) (fun q hq => ?_), fun q hq => ?_⟩
      · simp at hq'; exact (m2 q (S.in_v hq')).1 hq
      · simp at hq; exact hv q hq
      · have hs := hT3.size
        simp only [List.mem_cons, List.mem_append] at hq
        rcases hq with h | rfl | h | h
        · have := m2 q (List.mem_append_left _ h); exact ⟨this.1, by omega⟩
        · have := m2 q S.in_mb; exact ⟨this.1, by omega⟩
        · have := m2 q (S.in_g h); exact ⟨this.1, by omega⟩
        · rw [e] at h; simp at h; subst h
          exact ⟨fun h => by have := m1.lt h; omega, (ho.lt _ e).2⟩
  · rcases hl with e | e
    · rw [e]; exact (S.xs p hp).2.2.1
    · rw [e]; exact fun h => hnew p.1 (S.kin.lt (S.in_x hp)) h.symm
theorem wordsAt_turn {F : List Nat} {u : Value} {ws : List Int} (h : WordsAt W u ws) (ht : Frm.Turn F W W') (hn : ∀ q, u.ownBlock = some q → q ∉ F) : WordsAt W' u ws := h.turn ht hn
/-- The program's Lay. -/
theorem seg_lay (S : SegM w b mb X CS G A A k g v W) (I : SegA A g zF) (hg : g < 8) (hb : A.births = g) (hc : A.cap = 60000) (hk : k ≤ 1000) (z : Nat) (hz : z = 7 * 2 ^ g) :
    Calls Tryz.prog 10 #[.pointer (some ⟨b, 0, none⟩), .slice (some ⟨W.heap.size, 0, none⟩) z z] (W.alloc (.cells (madeCells #[.int .u64 0] z) 31)) fun e w2 => e = .returned (.tuple #[.int .u64 (hS g), .int .i64 0]) ∧
      SegM w b mb X CS G (A.lay (List.replicate (7 * 2 ^ g) 0)).1 A (k + 1) g v w2 ∧ WordsAt w2 (.slice (some ⟨W.heap.size, 0, none⟩) z z) (List.replicate (7 * 2 ^ g) 0) := by
  have hn := noughts z W 31
  have S1 := S.add ((Frm.Turn.refl [] W).alloc (.cells (madeCells #[.int .u64 0] z) 31)) (Nat.le_refl _) (World.alloc_heap_new W _)
  have e1 := (I.lay hg hb hc).1
  rw [← hz] at e1 ⊢
  refine (kin_lay S1.kin (by omega) hn (fun q hq => by simp [Value.ownBlock] at hq; subst hq; simp) (fun x hx => by rw [(List.mem_replicate.1 hx).2]; exact w64_zero)).mono ?_
  rintro e w2 ⟨he, hk2, hb2⟩
  rw [e1] at he
  refine ⟨he, (S1.but hk2 hb2).less, ?_⟩
  obtain ⟨F, hT, h1, h2⟩ := hb2
  exact wordsAt_turn hn hT (fun q hq => by simp [Value.ownBlock] at hq; subst hq; exact h1 _ (by simp) (by simp))
/-- The document's. -/
theorem seg_mlay (S : SegM w b mb X CS G A B k g v W) (I : SegA B g zF) (hg : g < 8) (hb : B.births = g) (hc : B.cap = 60000) (hl : B.t.lays ≤ 1000) {u : Value} (hw : WordsAt W u (List.replicate (7 * 2 ^ g) 0)) :
    Calls Tryz.prog 11 #[.agg CS, u] W fun e w3 => ∃ CS' G', e = .returned (.tuple #[.agg CS', .int .u64 (hS g), .int .i64 0]) ∧ CS'.size = 20 ∧ CS'.all (·.oneCell') = true ∧ w3.heap[mb]? = some (.cells CS 37 (0, 0)) ∧
      SegM w b mb X CS' G' A (B.lay (List.replicate (7 * 2 ^ g) 0)).1 k g v (w3.setRow mb CS') := by
  have e1 := (I.lay hg hb hc).1
  have hp := pow_le hg
  refine (refLay_s B (.agg CS) G W S.ref I.ok (by omega) (by omega) u _ hw (by rw [List.length_replicate]; omega)).mono ?_
  rintro e w3 ⟨u', G', he, hR, hT, hG⟩
  obtain ⟨CS', rfl, h20, h1⟩ := hR.row
  rw [e1] at he
  exact ⟨CS', G', he, h20, h1, hT.keep S.own (by simp), (S.told hT hR hG).1⟩
/-- The program's Write. -/
theorem seg_write (S : SegM w b mb X CS G A B k g v W) (hk : k ≤ 1000) (e0 : (A.write 0 (1 + g) (hS g)).2 = 0) (hg : g < 8) :
    Calls Tryz.prog 15 #[.pointer (some ⟨b, 0, none⟩), .agg #[.int .u64 0, .int .i64 (1 + (g : Int))], .int .u64 (hS g)] W fun e w' => e = .returned (.int .i64 0) ∧ SegM w b mb X CS G (A.write 0 (1 + g) (hS g)).1 B (k + 1) g v w' := by
  refine (kin_write S.kin (by omega) 0 (1 + (g : Int)) (hS g) w64_zero (wf_small (by omega) (by omega)) (hS_64 hg)).mono ?_
  rintro e w' ⟨he, hk2, hb2⟩
  rw [e0] at he
  exact ⟨he, S.but hk2 hb2⟩
/-- The document's. -/
theorem seg_mwrite (S : SegM w b mb X CS G A B k g v W) (hok : B.Ok) (hf : B.faults ≤ 1000) (ht : B.t.writes ≤ 1000) (e0 : (B.write 0 (1 + g) (hS g)).2 = 0) :
    Calls Tryz.prog 16 #[.agg CS, .agg #[.int .u64 0, .int .i64 (1 + (g : Int))], .int .u64 (hS g)] W fun e w3 => ∃ CS' G', e = .returned (.tuple #[.agg CS', .int .i64 0]) ∧ CS'.size = 20 ∧ CS'.all (·.oneCell') = true ∧ w3.heap[mb]? = some (.cells CS 37 (0, 0)) ∧
      SegM w b mb X CS' G' A (B.write 0 (1 + g) (hS g)).1 k g v (w3.setRow mb CS') := by
  refine (refWrite_any B (.agg CS) G W S.ref hok (by omega) (by omega) 0 (1 + (g : Int)) (hS g) (fun q hq => S.kin.lt (S.in_g hq))).mono ?_
  rintro e w3 ⟨u', G', he, hR, hT, hG⟩
  obtain ⟨CS', rfl, h20, h1⟩ := hR.row
  rw [e0] at he
  exact ⟨CS', G', he, h20, h1, hT.keep S.own (by simp), (S.told hT hR hG).1⟩
theorem kin_low (h : Kin w b K A n W) : A.Low n := h.choose_spec.1.low
/-- Between two segments. -/
def SegR (w : World) (b mb : Nat) (X : List (Nat × Obj)) (g : Nat) (v : Value) (W : World) : Prop := ∃ CS G A k, SegM w b mb X CS G A A k g v W ∧ k ≤ 2 * g ∧ SegA A g zF ∧ A.births = g ∧ A.cap = 60000
theorem kin_base {w0 : World} (h : Kin w b K A n W) (ht : Frm.Turn [] w0 w) : Kin w0 b K A n W := by
  obtain ⟨M, h1, h2⟩ := h
  exact ⟨M, ⟨h1.at_, fun q hq => Nat.le_trans ht.size (h1.new q hq), ht.trans h1.turn (by simp), h1.low, h1.born⟩, h2⟩
end Cnt
end Go.Proofs.YtpajafecodkndaaGreat

set_option linter.unusedVariables false
set_option linter.unusedSimpArgs false
namespace Go.Proofs.YtpajafecodkndaaGreat
namespace Cnt
open Go.RowKit Go.Maps Arn Pac Clm

/-- What Segments tells. -/
def SegsEnd (w : World) (n : Nat) (e : Ending) (W : World) : Prop :=
  ∃ b u G A k hv, e = .returned (.tuple #[.pointer (some ⟨b, 0, none⟩), u, hv]) ∧ Kin w b (G ++ hv.ownBlock.toList) A k W ∧ k ≤ 2 * n ∧ SegA A n zF ∧ A.births = n ∧ A.cap = 60000 ∧ RefS W A u G ∧ W.ownsRow w.heap.size 31 1 hv n (hsV n) ∧ (∀ q, q ∈ G → w.heap.size ≤ q) ∧ (∀ q, hv.ownBlock = some q → q ∉ G)
def z20 : Array Value := #[.int .i64 0, .int .i64 0, .int .i64 0, .int .i64 0, .int .u64 0, .int .u64 0, .int .u64 0, .int .u64 0, .int .u64 0, .int .u64 0, .int .u64 0, .int .u64 0, .int .u64 0, .slice none 0 0, .int .i64 0, .int .i64 0, .int .i64 0, .int .i64 0, .int .i64 0, .int .i64 0]
def n20 : Array Value := #[.int .i64 60000, .int .i64 0, .int .i64 0, .int .i64 0, .int .u64 0, .int .u64 0, .int .u64 0, .int .u64 0, .int .u64 0, .int .u64 0, .int .u64 0, .int .u64 0, .int .u64 0, .slice none 0 0, .int .i64 0, .int .i64 0, .int .i64 0, .int .i64 0, .int .i64 0, .int .i64 0]
def oz : Obj := .cells z20 37
theorem seg_start {w W : World} {b : Nat} {N : Array Value} {x : Nat} (hN : N = n20) (h : Kin w b [x] (Ar.new 60000) 0 W) (hx : W.heap[x]? = some oz) : SegR w b W.heap.size [(x, oz)] 0 (.slice none 0 0) ((W.alloc oz).setRow W.heap.size N) := by
  have h1 : (W.alloc oz).heap[W.heap.size]? = some (.cells z20 37 (0, 0)) := World.alloc_heap_new W oz
  have hT : Frm.Turn [] W ((W.alloc oz).setRow W.heap.size N) := setRow_turn ((Frm.Turn.refl [] W).alloc _) (.inr (Nat.le_refl _)) N
  have h2 := row_set N h1
  subst hN
  have hxl := (Array.getElem?_eq_some_iff.1 hx).1
  refine ⟨n20, [], Ar.new 60000, 0, ⟨?_, refS_new _ 60000, h2, World.ownsRow_nil _ _ _ _, h.turn.size, by simp, by simp [Value.ownBlock], fun p hp => ?_⟩, Nat.le_refl _, segA_new, rfl, rfl⟩
  · refine kin_adds h hT (fun q hq => ?_)
    simp only [List.map_cons, List.map_nil, Value.ownBlock, List.mem_append, List.mem_cons, List.not_mem_nil, or_false, Option.toList, List.nil_append] at hq
    rcases hq with rfl | rfl
    · exact .inl (by simp)
    · exact .inr ⟨Nat.le_refl _, (Array.getElem?_eq_some_iff.1 h2).1⟩
  · simp only [List.mem_cons, List.not_mem_nil, or_false] at hp
    subst hp
    exact ⟨hT.keep hx (by simp), by dsimp only; omega, by simp [Value.ownBlock], by simp⟩
theorem n20_facts : n20.size = 20 ∧ n20.all (·.oneCell') = true := ⟨by kernel_rfl, by kernel_rfl⟩
/-- What the round goes by. -/
theorem seg_open {w W : World} {b mb g : Nat} {X : List (Nat × Obj)} {v : Value} (h : SegR w b mb X g v W) (hg : g ≤ 8) : ∃ va vc CS G A k, v = .slice va g vc ∧ SegM w b mb X CS G A A k g v W ∧ k ≤ 2 * g ∧ SegA A g zF ∧ A.births = g ∧ A.cap = 60000 ∧ CS.size = 20 ∧ CS.all (·.oneCell') = true := by
  obtain ⟨CS, G, A, k, S, h1, h2, h3, h4⟩ := h
  obtain ⟨va, vc, rfl⟩ := Frm.row_form S.row
  obtain ⟨CS', e, h5, h6⟩ := S.ref.row
  cases e
  exact ⟨va, vc, CS, G, A, k, rfl, S, h1, h2, h3, h4, h5, h6⟩
theorem segs_end {w W W' : World} {b mb k g : Nat} {CS : Array Value} {G : List Nat} {A : Ar} {v : Value} {o : Obj} (S : SegM w b mb [(w.heap.size, o)] CS G A A k g v W) (h : k ≤ 2 * g ∧ SegA A g zF ∧ A.births = g ∧ A.cap = 60000) (hT : Frm.Turn [w.heap.size] W W') :
    SegsEnd w g (.returned (.tuple #[.pointer (some ⟨b, 0, none⟩), .agg CS, v])) W' := by
  obtain ⟨h1, h2, h3, h4⟩ := h
  have hx := (S.xs _ (List.Mem.head _)).2
  have hm := S.in_x (List.Mem.head _)
  have hg : w.heap.size ∉ G := hx.2.2
  refine ⟨b, .agg CS, G, A, k, v, rfl, (S.kin.poke hT (fun q hq => by simp at hq; subst hq; exact ⟨hm, Nat.le_refl _⟩)).sub (fun q hq => by simp at hq ⊢; exact .inr (.inr hq)), h1, h2, h3, h4, S.ref.turn hT (fun q hq e => hg (by simp at e; rw [← e]; exact hq)), Frm.owns_turn S.row hT (fun q hq e => hx.2.1 (by simp at e; rw [← e]; exact hq)), fun q hq => (S.gl q hq).1, fun q hq => (S.vn q hq).2⟩
theorem range_of {W : World} {k : Nat} {t : TypeId} {cs : Array Value} (h : W.heap[k]? = some (.cells cs t (0, 0))) : W.rangeAt k 0 cs.toList :=
  fun j v hv => by rw [Nat.zero_add, Frm.cell_row _ _ _ _ _ _ h]; simpa using hv
set_option maxRecDepth 100000 in
set_option maxHeartbeats 4000000 in
theorem Segments_any (n : Nat) (w : World) (hn : n ≤ 8) : Calls Tryz.prog 9 #[.int .i64 n] w (SegsEnd w n) := by
  have HN : Hid (Calls Tryz.prog 59 #[.int .i64 60000] (w.alloc oz) fun e w' => ∃ b, e = .returned (.tuple #[.pointer (some ⟨b, 0, none⟩), .int .i64 0]) ∧ Kin w b [w.heap.size] (Ar.new 60000) 0 w' ∧ w'.heap[w.heap.size]? = some oz) :=
    Lib.hid ((sin_new 60000 (w.alloc oz) (by omega)).mono fun e w' ⟨b, M, he, h2⟩ => ⟨b, he, kin_base ⟨M, h2, fun k hk => by
      simp at hk; subst hk
      have h3 := h2.turn.size
      refine ⟨fun h => ?_, by simp at h3; omega⟩
      have := h2.new _ h
      simp at this; omega⟩ ((Frm.Turn.refl [] w).alloc oz), h2.turn.keep (World.alloc_heap_new w oz) (by simp)⟩)
  unfold oz z20 at HN
  have HPW := Lib.hid (fun (g : Nat) (hg : g ≤ 8) W => Pow_any g W hg)
  obtain ⟨fs, hfs⟩ := struct_of under_refA
  have HFS := Lib.hid hfs
  obtain ⟨i0, hi, hz0, hz1, hz2⟩ := info_parts info_u64
  obtain ⟨N20, HN20⟩ : ∃ x, Hid (x = n20) := ⟨_, Lib.hid rfl⟩
  go_enter Tryz.func9, Tryz.ntmps9
  go_upto_region 2 with (go_at_call 59; (with_reducible refine (HN.out).mono ?_); rintro e w1 ⟨b, rfl, h, ho⟩; have HK := Lib.hid h; have HO := Lib.hid ho; clear h ho)
  go_upto_region 3 with (first
    | (refine wpList_buildTo rfl 37 #[(0, .const (.int .i64 60000))] rfl (some 18) rfl N20 (by rw [HN20.out]; kernel_rfl) ?_)
    | (refine wpList_store_row rfl 37 (.tmp 7) (.tmp 18) rfl w1.heap.size N20 rfl rfl 37 _ (World.alloc_heap_new w1 _) (by rw [HN20.out, n20_facts.1]; exact info_refA) (by rw [HN20.out]; rfl) (by rw [HN20.out]; exact n20_facts.2) ?_))
  have HS0 := Lib.hid (seg_start HN20.out HK.out HO.out)
  unfold oz z20 at HS0
  generalize World.setRow _ w1.heap.size N20 = w2 at HS0 ⊢
  clear HN HN20 HO HK
  generalize w1.heap.size = mb at HS0 ⊢
  clear w1
  go_wp2_with fail
  go_loopw [8, 20] (fun v i wr => ∃ g : Nat, g ≤ n ∧ i = .int .i64 g ∧ SegR w b mb [(w.heap.size, oz)] g v wr) (fun _ i _ => n - (intOf i).toNat)
  case atStart => exact ⟨0, Nat.zero_le _, rfl, HS0.out⟩
  case round =>
    obtain ⟨g, hg, rfl, hrel⟩ := hrel
    clear HS0
    by_cases hlt : g < n
    · obtain ⟨va, vc, CS, G, A, k, rfl, S, h1, h2, h3, h4, h5, h6⟩ := seg_open hrel (by omega)
      have h8 : g < 8 := by omega
      have hp := pow_le h8
      have HP := Lib.hid (HPW.out g (by omega))
      obtain ⟨z, hz⟩ : ∃ z : Nat, z = 7 * 2 ^ g := ⟨_, rfl⟩
      have hm := fun W => made_words z (by omega) W
      have HLY := Lib.hid (seg_lay S h2 h8 h3 h4 (by omega) z hz)
      have HML := Lib.hid (fun (Xx : List (Nat × Obj)) (W' : World) (A' : Ar) (k' : Nat) (u : Value) (S' : SegM w b mb Xx CS G A' A k' g (.slice va g vc) W') (hw : WordsAt W' u (List.replicate (7 * 2 ^ g) 0)) => seg_mlay S' h2 h8 h3 h4 (by have := (kin_low S.kin).lays; omega) hw)
      have HLW := Lib.hid (h2.lay h8 h3 h4)
      have ez : (z : Int) = 7 * ((2 ^ g : Nat) : Int) := by omega
      have p0 : (1 : Int) ≤ ((2 ^ g : Nat) : Int) := by omega
      have p1 : ((2 ^ g : Nat) : Int) ≤ 128 := by omega
      have HK2 : Hid (k + 2 ≤ 2 * (g + 1)) := Lib.hid (by omega)
      have HSZ := Lib.hid (And.intro h5 h6)
      have HSO := Lib.hid S.own
      have HSW := Lib.hid S.kin.turn
      have HKL : Hid (k ≤ 100) := Lib.hid (by omega)
      have H8 := Lib.hid h8
      have hgn : (g : Int) < (n : Int) := by omega
      have hg8 : (g : Int) ≤ 7 := by omega
      rw [ez] at hm
      clear hrel S h1 h2 h3 h4 h5 h6 hp ez hz
      generalize ((2 ^ g : Nat) : Int) = p at HP hm p0 p1
      go_upto_region 10 with (first
        | (go_at_call 60; (with_reducible refine (HP.out _).mono ?_); rintro e w3 ⟨rfl, rfl⟩)
        | (go_at_call 10; (with_reducible refine (HLY.out).mono ?_); rintro e w3 ⟨rfl, hs, hw⟩; have HO3 := Lib.hid hs.own; have HM3 := Lib.hid (HML.out _ _ _ _ _ hs hw); clear hs hw)
        | (refine wpList_load_row rfl 37 (.tmp 7) rfl mb rfl 37 CS (0, 0) (.struct fs) HO3.out HFS.out rfl (by rw [HSZ.out.1]; exact info_refA) ?_)
        | (go_at_call 11; (with_reducible refine (HM3.out).mono ?_); rintro e w4 ⟨CS4, G4, rfl, hz4, ho4, hc4, hs⟩; have HZ4 := Lib.hid hz4; have HN4 := Lib.hid ho4; have HC4 := Lib.hid hc4; have HS4 := Lib.hid hs; clear hz4 ho4 hc4 hs)
        | (refine wpList_store_row rfl 37 (.tmp 7) (.tmp 37) rfl mb CS4 rfl rfl 37 CS HC4.out (by rw [HZ4.out]; exact info_refA) (by rw [HZ4.out, HSZ.out.1]) HN4.out ?_))
      generalize World.setRow w4 mb CS4 = w5 at HS4 ⊢
      have hx5 := World.alloc_heap_new w5 (.cells #[.int .u64 0, .int .i64 (1 + (g : Int))] 66)
      have HS5 := Lib.hid (HS4.out.add ((Frm.Turn.refl [] w5).alloc (.cells #[.int .u64 0, .int .i64 (1 + (g : Int))] 66)) (Nat.le_refl _) hx5)
      have HLO := Lib.hid (kin_low HS4.out.kin)
      clear HS4 HC4 HM3 HO3 HLY HML HP hx5 hm
      have HWR := Lib.hid (seg_write HS5.out (by have := HKL.out; omega) HLW.out.2.2.2.1 H8.out)
      go_upto_region 12 with (first
        | (go_at_call 15; (with_reducible refine (HWR.out).mono ?_); rintro e w6 ⟨rfl, hs⟩; have HS6 := Lib.hid hs; clear hs))
      have hx6 := (HS6.out.xs _ (List.Mem.head _)).1
      have q0 : w6.cell? ⟨w5.heap.size, 0, none⟩ = some (.int .u64 0) := (Frm.cell_row _ _ 0 _ _ _ hx6).trans rfl
      have q1 : w6.cell? ⟨w5.heap.size, 1, none⟩ = some (.int .i64 (1 + (g : Int))) := (Frm.cell_row _ _ 1 _ _ _ hx6).trans rfl
      have HO6 := Lib.hid HS6.out.own
      have HMW := Lib.hid (seg_mwrite HS6.out HLW.out.2.1 (by have := HLO.out.faults; have := HKL.out; omega) (by have := HLO.out.writes; have := HKL.out; omega) HLW.out.2.2.2.1)
      clear hx6 HWR HS5
      go_upto_region 13 with (first
        | (refine wpList_load_row rfl 37 (.tmp 7) rfl mb rfl 37 CS4 (0, 0) (.struct fs) HO6.out HFS.out rfl (by rw [HZ4.out]; exact info_refA) ?_)
        | (go_at_call 16; (with_reducible refine (HMW.out).mono ?_); rintro e w7 ⟨CS7, G7, rfl, hz7, ho7, hc7, hs⟩; have HZ7 := Lib.hid hz7; have HN7 := Lib.hid ho7; have HC7 := Lib.hid hc7; have HS7 := Lib.hid hs.less; clear hz7 ho7 hc7 hs)
        | (refine wpList_store_row rfl 37 (.tmp 7) (.tmp 52) rfl mb CS7 rfl rfl 37 CS4 HC7.out (by rw [HZ7.out]; exact info_refA) (by rw [HZ7.out, HZ4.out]) HN7.out ?_))
      generalize World.setRow w7 mb CS7 = w8 at HS7 ⊢
      have HR8 := Lib.hid (Frm.owns_turn HS7.out.row ((Frm.Turn.refl [] w8).alloc (.cells #[.int .u64 (hS g)] 31)) (by simp))
      have HB8 : Hid (w.heap.size ≤ (w8.alloc (.cells #[.int .u64 (hS g)] 31)).heap.size) := Lib.hid (by have := HS7.out.kin.turn.size; simp; omega)
      clear HMW HO6 HS6 q0 q1 HC7
      go_wp2_with (at_builtin; go_must (refine wpList_append_own_at _ rfl (.tmp 54) (.tmp 56) 25 rfl w.heap.size 31 i0 (.int .u64 0) 1 8 under_u64s hi hz0 hz1 hz2 rfl (by decide) (.slice va g vc) g (hsV g) rfl HR8.out ⟨w8.heap.size, 0, none⟩ 1 1 [.int .u64 (hS g)] rfl rfl (Dr.one_new _ _ _) (by simp [Value.oneCell']) (by unfold maxLen; omega) (by omega) HB8.out ?_); intro v9 w9 hown9 hg9 _ hl9; have HO9 := Lib.hid hown9; have HG9 := Lib.hid hg9; have HL9 := Lib.hid hl9; clear hown9 hg9 hl9)
      refine ⟨⟨g + 1, by omega, by simp, ?_⟩, ?_⟩
      · exact ⟨CS7, G7, segStep A g, k + 1 + 1, HS7.out.grow ((Frm.Turn.refl [] w8).alloc _) HG9.out HL9.out HO9.out, HK2.out, HLW.out.2.2.2.2.1, HLW.out.2.2.2.2.2.1, HLW.out.2.2.2.2.2.2⟩
      · simp [intOf]; omega
    · obtain rfl : g = n := by omega
      obtain ⟨va, vc, CS, G, A, k, rfl, S, h1, h2, h3, h4, h5, h6⟩ := seg_open hrel (by omega)
      have hlt' : ¬ (g : Int) < (g : Int) := by omega
      have HS := Lib.hid S
      have HX := Lib.hid (And.intro h1 (And.intro h2 (And.intro h3 h4)))
      have HSZ := Lib.hid (And.intro h5 h6)
      have hx := (S.xs _ (List.Mem.head _)).1
      have HRB := Lib.hid hx
      have HNE : Hid (mb ≠ w.heap.size) := Lib.hid (fun e => (S.xs _ (List.Mem.head _)).2.1 e.symm)
      clear hrel S h1 h2 h3 h4 h5 h6 hx hlt
      go_upto_region 15 with fail
      refine wp_region_held_drew (S := fun W' => Frm.Turn [w.heap.size] wr W') (by kernel_rfl) ?_ (fun hHeld => ?_)
      · exact (Frm.Turn.refl _ wr).drew
      refine wpAnyH_take (i := 0) (v := ?_) rfl (by kernel_rfl) (by kernel_rfl) (by kernel_rfl) (fun _ _ _ h => h) (Or.inl ⟨by rfl, ?_⟩) (by assumption) ?_
      rotate_left
      · (intro w hSw; (try dsimp only at hSw); go_simp; try with_reducible rfl)
      try simp only [Act.put, List.getElem_toArray, List.getElem_cons_succ, List.getElem_cons_zero, List.setIfInBounds_toArray, List.set_cons_zero, List.set_cons_succ]
      refine' wpAnyH_take (i := 1) (v := _) rfl (by kernel_rfl) (by kernel_rfl) (by kernel_rfl) (fun _ _ _ h => h) (yieldsIf_load_mid (by rfl) 37 (.tmp 7) rfl mb 0 rfl CS.toList (.struct fs) (fun w' hw => range_of (hw.keep HS.out.own (by simpa using HNE.out))) HFS.out rfl (by rw [Array.length_toList, HSZ.out.1]; exact info_refA)) (by assumption) ?_
      try simp only [Act.put, List.getElem_toArray, List.getElem_cons_succ, List.getElem_cons_zero, List.setIfInBounds_toArray, List.set_cons_zero, List.set_cons_succ]
      rw [Array.toArray_toList]
      refine wpAnyH_take (i := 2) (v := ?_) rfl (by kernel_rfl) (by kernel_rfl) (by kernel_rfl) (fun _ _ _ h => h) (Or.inl ⟨by rfl, ?_⟩) (by assumption) ?_
      rotate_left
      · (intro w hSw; (try dsimp only at hSw); go_simp; try with_reducible rfl)
      try simp only [Act.put, List.getElem_toArray, List.getElem_cons_succ, List.getElem_cons_zero, List.setIfInBounds_toArray, List.set_cons_zero, List.set_cons_succ]
      refine wpAnyH_take (i := 3) (v := ?_) rfl (by kernel_rfl) (by kernel_rfl) (by kernel_rfl) (fun _ _ _ h => h) (Or.inl ⟨by rfl, ?_⟩) (by assumption) ?_
      rotate_left
      · (intro w hSw; (try dsimp only at hSw); go_simp; try with_reducible rfl)
      try simp only [Act.put, List.getElem_toArray, List.getElem_cons_succ, List.getElem_cons_zero, List.setIfInBounds_toArray, List.set_cons_zero, List.set_cons_succ]
      refine wpAnyH_ready (rs := [4]) (by kernel_rfl) (by simp) ?_
      refine AllReadyH.cons rfl (fun K hK => ?_) AllReadyH.nil
      try simp only [List.getElem_toArray, List.getElem_cons_succ, List.getElem_cons_zero]
      rw [if_pos (by rfl)]
      refine wp_store_row 37 (.tmp 3) (.tmp 60) rfl w.heap.size CS rfl rfl 37 z20 ((Frm.Turn.refl [] wr).drew.keep HRB.out (by simp)) (by rw [HSZ.out.1]; exact info_refA) (by rw [HSZ.out.1]; rfl) HSZ.out.2 ?_
      refine hK.out _ _ (setRow_turn ((Frm.Turn.refl _ wr).drew) (.inl (by simp)) CS) (fun hHeld4 => ?_)
      clear hK K
      try simp only [Act.put, List.getElem_toArray, List.getElem_cons_succ, List.getElem_cons_zero, List.setIfInBounds_toArray, List.set_cons_zero, List.set_cons_succ]
      refine wpAnyH_take (i := 5) (v := ?_) rfl (by kernel_rfl) (by kernel_rfl) (by kernel_rfl) (fun _ _ _ h => h) (Or.inl ⟨by rfl, ?_⟩) (by assumption) ?_
      rotate_left
      · (intro w hSw; (try dsimp only at hSw); go_simp; try with_reducible rfl)
      try simp only [Act.put, List.getElem_toArray, List.getElem_cons_succ, List.getElem_cons_zero, List.setIfInBounds_toArray, List.set_cons_zero, List.set_cons_succ]
      refine wpAnyH_done (by kernel_rfl) ?_ _
      go_wp2_with fail
      have hT := hHeld4
      have hrow : (wr.drew.setRow w.heap.size CS).heap[w.heap.size]? = some (.cells CS 37 (0, 0)) := row_set CS ((Frm.Turn.refl [] wr).drew.keep HRB.out (by simp))
      have HROW := Lib.hid hrow
      have hld : (loadVar 37 ⟨w.heap.size, 0, none⟩).run Tryz.prog (wr.drew.setRow w.heap.size CS) = .ok (.agg CS) (wr.drew.setRow w.heap.size CS) := run_loadVar_row _ _ _ _ CS (0, 0) (.struct fs) hrow HFS.out rfl (by rw [HSZ.out.1]; exact info_refA)
      refine bodyPost_ret (v := .tuple #[.pointer (some ⟨b, 0, none⟩), .agg CS, .slice va g vc]) (by simp [results, Tryz.results9, asAddr, hld, Act.put]) rfl ?_
      exact segs_end HS.out HX.out hHeld4
end Cnt
end Go.Proofs.YtpajafecodkndaaGreat
