/- An arena with its segments, and the document's, beside blocks that both leave alone. -/
import Derived.Test.YthnmnpjjpckeeaaCountCalls3
import Derived.Test.YthnmnpjjpckeeaaArenaRefAll
set_option linter.unusedVariables false
set_option linter.unusedSimpArgs false
namespace Go.Proofs.Ythnmnpjjpckeeaa
namespace Cnt
open Go.RowKit Go.Maps Arn Pac Clm

variable {w W W' : World} {b n k : Nat} {K : List Nat} {A B : Ar}
/-- What a call of the arena leaves, beside the blocks K. -/
theorem kin_after {M : Mem} {m : Nat} {A' : Ar} (h1 : Sin w b M A n W) (h2 : ∀ k, k ∈ K → k ∉ M.foot b ∧ k < W.heap.size) (ha : After w b M A' m W W') : Kin w b K A' m W' ∧ But w K none W W' := by
  obtain ⟨M', k1, k4, k5⟩ := ha
  have hsz := k4.size
  refine ⟨⟨M', k1, fun k hk => ⟨fun hk' => ?_, by have := (h2 k hk).2; omega⟩⟩, ⟨_, k4, fun k hk _ hk' => (h2 k hk).1 hk', fun k hk => h1.new k hk⟩⟩
  rcases k5 k hk' with e1 | e1
  · exact (h2 k hk).1 e1
  · have := (h2 k hk).2; omega
theorem kin_lay (h : Kin w b K A n W) (hn : n ≤ 10000000) {v : Value} {ws : List Int} (hv : WordsAt W v ws) (ha : ∀ k, v.ownBlock = some k → k ∈ K) (hw : ∀ x, x ∈ ws → W64 x) :
    Calls Try.prog 23 #[.pointer (some ⟨b, 0, none⟩), v] W fun e w' => e = .returned (.tuple #[.int .u64 (A.lay ws).2.1, .int .i64 (A.lay ws).2.2]) ∧ Kin w b K (A.lay ws).1 (n + 1) w' ∧ But w K none W w' := by
  obtain ⟨M, h1, h2⟩ := h
  exact (sin_lay h1 (by omega) hv (fun _ k hk hk' => (h2 k (ha k hk)).1 hk') hw).mono fun e w' ⟨he, ha⟩ => ⟨he, kin_after h1 h2 ha⟩
theorem kin_read (h : Kin w b K A n W) (hn : n ≤ 10000000) (blk i : Int) (hb : W64 blk) (hi : (Lit.int .i64 i).wf = true) :
    Calls Try.prog 53 #[.pointer (some ⟨b, 0, none⟩), .agg #[.int .u64 blk, .int .i64 i]] W fun e w' => e = .returned (.tuple #[.int .u64 (A.read blk i).2.1, .int .i64 (A.read blk i).2.2]) ∧ Kin w b K (A.read blk i).1 (n + 1) w' ∧ But w K none W w' := by
  obtain ⟨M, h1, h2⟩ := h
  exact (sin_read h1 (by omega) blk i hb hi).mono fun e w' ⟨he, ha⟩ => ⟨he, kin_after h1 h2 ha⟩
theorem but_refl : But w K none W W := But.of (Frm.Turn.refl [] W)
theorem kin_adds {K' : List Nat} (h : Kin w b K A n W) (ht : Frm.Turn [] W W') (hk : ∀ k, k ∈ K' → k ∈ K ∨ (W.heap.size ≤ k ∧ k < W'.heap.size)) : Kin w b K' A n W' := by
  obtain ⟨M, h3, h4⟩ := h
  have := ht.size
  refine ⟨M, h3.step ht, fun j hj => ?_⟩
  rcases hk j hj with hj | hj
  · exact ⟨(h4 j hj).1, by have := (h4 j hj).2; omega⟩
  · exact ⟨fun hk => by have := h3.lt hk; omega, hj.2⟩
theorem row_set {W : World} {k : Nat} {t : TypeId} {cs : Array Value} (cs' : Array Value) (h : W.heap[k]? = some (.cells cs t (0, 0))) : (W.setRow k cs').heap[k]? = some (.cells cs' t (0, 0)) := by
  unfold World.setRow
  simp only [Array.getElem?_modify, if_pos, h, Option.map_some]
/-- The handles, as cells. -/
def hsV (n : Nat) : List Value := (List.range n).map fun g => .int .u64 (hS g)
theorem hsV_succ (n : Nat) : hsV (n + 1) = hsV n ++ [.int .u64 (hS n)] := by simp [hsV, List.range_succ]
theorem hsV_get {n g : Nat} (h : g < n) : (hsV n)[g]? = some (.int .u64 (hS g)) := by simp [hsV, h]
/-- Two arenas: the program's (A) at b, the document's (B) by value at mb; the row of handles v; blocks X besides, that lie as they lay. -/
structure SegM (w : World) (b mb : Nat) (X : List (Nat × Obj)) (CS : Array Value) (G : List Nat) (A B : Ar) (k g : Nat) (v : Value) (W : World) : Prop where
  kin : Kin w b (X.map Prod.fst ++ mb :: (G ++ v.ownBlock.toList)) A k W
  ref : RefS W B (.agg CS) G
  own : W.heap[mb]? = some (.cells CS 31 (0, 0))
  row : W.ownsRow w.heap.size 25 1 v g (hsV g)
  mbl : w.heap.size ≤ mb
  gl : ∀ q, q ∈ G → w.heap.size ≤ q ∧ q ≠ mb
  vn : ∀ q, v.ownBlock = some q → q ≠ mb ∧ q ∉ G
  xs : ∀ p, p ∈ X → W.heap[p.1]? = some p.2 ∧ p.1 ≠ mb ∧ v.ownBlock ≠ some p.1 ∧ p.1 ∉ G
variable {mb g : Nat} {X : List (Nat × Obj)} {CS : Array Value} {G : List Nat} {v : Value}
theorem SegM.in_x (S : SegM w b mb X CS G A B k g v W) {p : Nat × Obj} (h : p ∈ X) : p.1 ∈ X.map Prod.fst ++ mb :: (G ++ v.ownBlock.toList) := List.mem_append_left _ (List.mem_map_of_mem h)
theorem SegM.in_mb (S : SegM w b mb X CS G A B k g v W) : mb ∈ X.map Prod.fst ++ mb :: (G ++ v.ownBlock.toList) := by simp
theorem SegM.in_g (S : SegM w b mb X CS G A B k g v W) {q : Nat} (h : q ∈ G) : q ∈ X.map Prod.fst ++ mb :: (G ++ v.ownBlock.toList) := by simp [h]
theorem SegM.in_v (S : SegM w b mb X CS G A B k g v W) {q : Nat} (h : v.ownBlock = some q) : q ∈ X.map Prod.fst ++ mb :: (G ++ v.ownBlock.toList) := by simp [h]
theorem SegM.step (S : SegM w b mb X CS G A B k g v W) (ht : Frm.Turn [] W W') : SegM w b mb X CS G A B k g v W' :=
  ⟨S.kin.step ht, S.ref.turn ht (by simp), ht.keep S.own (by simp), Frm.owns_turn S.row ht (by simp), S.mbl, S.gl, S.vn, fun p hp => ⟨ht.keep (S.xs p hp).1 (by simp), (S.xs p hp).2⟩⟩
theorem SegM.add (S : SegM w b mb X CS G A B k g v W) (ht : Frm.Turn [] W W') {x : Nat} {o : Obj} (h1 : W.heap.size ≤ x) (h2 : W'.heap[x]? = some o) : SegM w b mb ((x, o) :: X) CS G A B k g v W' := by
  have S' := S.step ht
  refine ⟨S.kin.add ht h1 (Array.getElem?_eq_some_iff.1 h2).1, S'.ref, S'.own, S'.row, S.mbl, S.gl, S.vn, fun p hp => ?_⟩
  rcases List.mem_cons.1 hp with rfl | hp
  · exact ⟨h2, fun e => by have := S.kin.lt S.in_mb; dsimp only at e; omega, fun e => by have := S.kin.lt (S.in_v e); dsimp only at this; omega, fun e => by have := S.kin.lt (S.in_g e); dsimp only at this; omega⟩
  · exact S'.xs p hp
theorem SegM.less {x : Nat × Obj} (S : SegM w b mb (x :: X) CS G A B k g v W) : SegM w b mb X CS G A B k g v W := ⟨S.kin.sub (fun q hq => List.mem_cons_of_mem _ hq), S.ref, S.own, S.row, S.mbl, S.gl, S.vn, fun p hp => S.xs p (List.mem_cons_of_mem _ hp)⟩
/-- Behind a call of the program's arena. -/
theorem SegM.but {A' : Ar} {k' : Nat} (S : SegM w b mb X CS G A B k g v W) (hk : Kin w b (X.map Prod.fst ++ mb :: (G ++ v.ownBlock.toList)) A' k' W') (hb : But w (X.map Prod.fst ++ mb :: (G ++ v.ownBlock.toList)) none W W') : SegM w b mb X CS G A' B k' g v W' := by
  obtain ⟨F, hT, h1, h2⟩ := hb
  exact ⟨hk, S.ref.turn hT (fun q hq => h1 q (S.in_g hq) (by simp)), hT.keep S.own (h1 mb S.in_mb (by simp)), Frm.owns_turn S.row hT (fun q hq => h1 q (S.in_v hq) (by simp)), S.mbl, S.gl, S.vn, fun p hp => ⟨hT.keep (S.xs p hp).1 (h1 p.1 (S.in_x hp) (by simp)), (S.xs p hp).2⟩⟩
/-- Behind a call of the document's, and what it told is put where it stood. -/
theorem SegM.told {B' : Ar} {CS' : Array Value} {G' : List Nat} (S : SegM w b mb X CS G A B k g v W) (hT : Frm.Turn [] W W') (hR : RefS W' B' (.agg CS') G') (hG : ∀ q, q ∈ G' → q ∈ G ∨ (W.heap.size ≤ q ∧ q < W'.heap.size)) : SegM w b mb X CS' G' A B' k g v (W'.setRow mb CS') ∧ Frm.Turn [mb] W' (W'.setRow mb CS') := by
  have S' := S.step hT
  have hTm : Frm.Turn [mb] W' (W'.setRow mb CS') := setRow_turn (Frm.Turn.refl _ _) (.inl (by simp)) CS'
  have hml : mb < W.heap.size := S.kin.lt S.in_mb
  have hgm : ∀ q, q ∈ G' → w.heap.size ≤ q ∧ q ≠ mb := fun q hq => by
    rcases hG q hq with h | h
    · exact S.gl q h
    · exact ⟨by have := S.kin.turn.size; omega, by omega⟩
  refine ⟨⟨?_, hR.turn hTm (fun q hq => by simpa using (hgm q hq).2), row_set CS' S'.own, Frm.owns_turn S'.row hTm (fun q hq => by simpa using (S.vn q hq).1), S.mbl, hgm, fun q hq => ⟨(S.vn q hq).1, fun hq' => ?_⟩, fun p hp => ⟨hTm.keep (S'.xs p hp).1 (by simpa using (S.xs p hp).2.1), (S.xs p hp).2.1, (S.xs p hp).2.2.1, fun h => by
    rcases hG _ h with h | h
    · exact (S.xs p hp).2.2.2 h
    · have := S.kin.lt (S.in_x hp); omega⟩⟩, hTm⟩
  · refine Kin.poke (kin_adds S.kin hT (K' := X.map Prod.fst ++ mb :: (G' ++ v.ownBlock.toList)) (fun q hq => ?_)) hTm (fun q hq => by simp at hq; subst hq; exact ⟨by simp, S.mbl⟩)
    simp only [List.mem_append, List.mem_cons] at hq ⊢
    rcases hq with h | h | h | h
    · exact .inl (.inl h)
    · exact .inl (.inr (.inl h))
    · rcases hG q h with h | h
      · exact .inl (.inr (.inr (.inl h)))
      · exact .inr h
    · exact .inl (.inr (.inr (.inr h)))
  · rcases hG q hq' with h | h
    · exact (S.vn q hq).2 h
    · have := S.kin.lt (S.in_v hq); omega
/-- A handle is put behind the others. -/
theorem SegM.grow {W1 W3 : World} {v' : Value} (S : SegM w b mb X CS G A B k g v W) (h1 : Frm.Turn [] W W1) (h3 : W1.grownBy W3 v.ownBlock) (hl : v'.ownBlock = v.ownBlock ∨ v'.ownBlock = some W1.heap.size) (ho : W3.ownsRow w.heap.size 25 1 v' (g + 1) (hsV g ++ [.int .u64 (hS g)])) :
    SegM w b mb X CS G A B k (g + 1) v' W3 := by
  have S1 := S.step h1
  have hT3 := Frm.Turn.of_grown h3
  have hv : ∀ q, v.ownBlock = some q → w.heap.size ≤ q := fun q hq => (S.row.lt q hq).1
  have k3 := S1.kin.poke hT3 (fun q hq => by simp at hq; exact ⟨S.in_v hq, hv q hq⟩)
  have hnew : ∀ q, q < W.heap.size → some q ≠ some W1.heap.size := fun q hq e => by cases e; have := h1.size; omega
  have hn : ∀ q, v'.ownBlock = some q → q ≠ mb ∧ q ∉ G := fun q hq => by
    rcases hl with e | e
    · exact S.vn q (by rw [← e]; exact hq)
    · rw [e] at hq
      exact ⟨fun h => hnew mb (S.kin.lt S.in_mb) (by rw [← h, hq]), fun h => hnew q (S.kin.lt (S.in_g h)) hq.symm⟩
  refine ⟨?_, S1.ref.turn hT3 (fun q hq hq' => by simp at hq'; exact (S.vn q hq').2 hq), hT3.keep S1.own (fun h => by simp at h; exact (S.vn mb h).1 rfl), by rw [hsV_succ]; exact ho, S.mbl, S.gl, hn, fun p hp => ⟨hT3.keep (S1.xs p hp).1 (fun h => by simp at h; exact (S.xs p hp).2.2.1 h), (S.xs p hp).2.1, ?_, (S.xs p hp).2.2.2⟩⟩
  · rcases hl with e | e
    · rw [e]; exact k3
    · obtain ⟨M, m1, m2⟩ := S1.kin
      refine ⟨M, m1.apart hT3 (fun q hq hq' => ?_) (fun q hq => ?_), fun q hq => ?_⟩
      · simp at hq'; exact (m2 q (S.in_v hq')).1 hq
      · simp at hq; exact hv q hq
      · have hs := hT3.size
        simp only [List.mem_cons, List.mem_append] at hq
        rcases hq with h | rfl | h | h
        · have := m2 q (List.mem_append_left _ h); exact ⟨this.1, by omega⟩
        · have := m2 q S.in_mb; exact ⟨this.1, by omega⟩
        · have := m2 q (S.in_g h); exact ⟨this.1, by omega⟩
        · rw [e] at h; simp at h; subst h
          exact ⟨fun h => by have := m1.lt h; omega, (ho.lt _ e).2⟩
  · rcases hl with e | e
    · rw [e]; exact (S.xs p hp).2.2.1
    · rw [e]; exact fun h => hnew p.1 (S.kin.lt (S.in_x hp)) h.symm
theorem wordsAt_turn {F : List Nat} {u : Value} {ws : List Int} (h : WordsAt W u ws) (ht : Frm.Turn F W W') (hn : ∀ q, u.ownBlock = some q → q ∉ F) : WordsAt W' u ws := h.turn ht hn
/-- The program's Lay. -/
theorem seg_lay (S : SegM w b mb X CS G A A k g v W) (I : SegA A g zF) (hg : g < 8) (hb : A.births = g) (hc : A.cap = 60000) (hk : k ≤ 1000) (z : Nat) (hz : z = 7 * 2 ^ g) :
    Calls Try.prog 23 #[.pointer (some ⟨b, 0, none⟩), .slice (some ⟨W.heap.size, 0, none⟩) z z] (W.alloc (.cells (madeCells #[.int .u64 0] z) 25)) fun e w2 => e = .returned (.tuple #[.int .u64 (hS g), .int .i64 0]) ∧
      SegM w b mb X CS G (A.lay (List.replicate (7 * 2 ^ g) 0)).1 A (k + 1) g v w2 ∧ WordsAt w2 (.slice (some ⟨W.heap.size, 0, none⟩) z z) (List.replicate (7 * 2 ^ g) 0) := by
  have hn := noughts z W 25
  have S1 := S.add ((Frm.Turn.refl [] W).alloc (.cells (madeCells #[.int .u64 0] z) 25)) (Nat.le_refl _) (World.alloc_heap_new W _)
  have e1 := (I.lay hg hb hc).1
  rw [← hz] at e1 ⊢
  refine (kin_lay S1.kin (by omega) hn (fun q hq => by simp [Value.ownBlock] at hq; subst hq; simp) (fun x hx => by rw [(List.mem_replicate.1 hx).2]; exact w64_zero)).mono ?_
  rintro e w2 ⟨he, hk2, hb2⟩
  rw [e1] at he
  refine ⟨he, (S1.but hk2 hb2).less, ?_⟩
  obtain ⟨F, hT, h1, h2⟩ := hb2
  exact wordsAt_turn hn hT (fun q hq => by simp [Value.ownBlock] at hq; subst hq; exact h1 _ (by simp) (by simp))
/-- The document's. -/
theorem seg_mlay (S : SegM w b mb X CS G A B k g v W) (I : SegA B g zF) (hg : g < 8) (hb : B.births = g) (hc : B.cap = 60000) (hl : B.t.lays ≤ 1000) {u : Value} (hw : WordsAt W u (List.replicate (7 * 2 ^ g) 0)) :
    Calls Try.prog 24 #[.agg CS, u] W fun e w3 => ∃ CS' G', e = .returned (.tuple #[.agg CS', .int .u64 (hS g), .int .i64 0]) ∧ CS'.size = 20 ∧ CS'.all (·.oneCell') = true ∧ w3.heap[mb]? = some (.cells CS 31 (0, 0)) ∧
      SegM w b mb X CS' G' A (B.lay (List.replicate (7 * 2 ^ g) 0)).1 k g v (w3.setRow mb CS') := by
  have e1 := (I.lay hg hb hc).1
  have hp := pow_le hg
  refine (refLay_s B (.agg CS) G W S.ref I.ok (by omega) (by omega) u _ hw (by rw [List.length_replicate]; omega)).mono ?_
  rintro e w3 ⟨u', G', he, hR, hT, hG⟩
  obtain ⟨CS', rfl, h20, h1⟩ := hR.row
  rw [e1] at he
  exact ⟨CS', G', he, h20, h1, hT.keep S.own (by simp), (S.told hT hR hG).1⟩
/-- The program's Write. -/
theorem seg_write (S : SegM w b mb X CS G A B k g v W) (hk : k ≤ 1000) (e0 : (A.write 0 (1 + g) (hS g)).2 = 0) (hg : g < 8) :
    Calls Try.prog 25 #[.pointer (some ⟨b, 0, none⟩), .agg #[.int .u64 0, .int .i64 (1 + (g : Int))], .int .u64 (hS g)] W fun e w' => e = .returned (.int .i64 0) ∧ SegM w b mb X CS G (A.write 0 (1 + g) (hS g)).1 B (k + 1) g v w' := by
  refine (kin_write S.kin (by omega) 0 (1 + (g : Int)) (hS g) w64_zero (wf_small (by omega) (by omega)) (hS_64 hg)).mono ?_
  rintro e w' ⟨he, hk2, hb2⟩
  rw [e0] at he
  exact ⟨he, S.but hk2 hb2⟩
/-- The document's. -/
theorem seg_mwrite (S : SegM w b mb X CS G A B k g v W) (hok : B.Ok) (hf : B.faults ≤ 1000) (ht : B.t.writes ≤ 1000) (e0 : (B.write 0 (1 + g) (hS g)).2 = 0) :
    Calls Try.prog 26 #[.agg CS, .agg #[.int .u64 0, .int .i64 (1 + (g : Int))], .int .u64 (hS g)] W fun e w3 => ∃ CS' G', e = .returned (.tuple #[.agg CS', .int .i64 0]) ∧ CS'.size = 20 ∧ CS'.all (·.oneCell') = true ∧ w3.heap[mb]? = some (.cells CS 31 (0, 0)) ∧
      SegM w b mb X CS' G' A (B.write 0 (1 + g) (hS g)).1 k g v (w3.setRow mb CS') := by
  refine (refWrite_any B (.agg CS) G W S.ref hok (by omega) (by omega) 0 (1 + (g : Int)) (hS g) (fun q hq => S.kin.lt (S.in_g hq))).mono ?_
  rintro e w3 ⟨u', G', he, hR, hT, hG⟩
  obtain ⟨CS', rfl, h20, h1⟩ := hR.row
  rw [e0] at he
  exact ⟨CS', G', he, h20, h1, hT.keep S.own (by simp), (S.told hT hR hG).1⟩
theorem kin_low (h : Kin w b K A n W) : A.Low n := h.choose_spec.1.low
/-- Between two segments. -/
def SegR (w : World) (b mb : Nat) (X : List (Nat × Obj)) (g : Nat) (v : Value) (W : World) : Prop := ∃ CS G A k, SegM w b mb X CS G A A k g v W ∧ k ≤ 2 * g ∧ SegA A g zF ∧ A.births = g ∧ A.cap = 60000
theorem kin_base {w0 : World} (h : Kin w b K A n W) (ht : Frm.Turn [] w0 w) : Kin w0 b K A n W := by
  obtain ⟨M, h1, h2⟩ := h
  exact ⟨M, ⟨h1.at_, fun q hq => Nat.le_trans ht.size (h1.new q hq), ht.trans h1.turn (by simp), h1.low, h1.born⟩, h2⟩
end Cnt
end Go.Proofs.Ythnmnpjjpckeeaa
