/- The document's comparison of two lists of places, where they are the same. -/
/- The parts of law 13: collects, environments, the document's arena, a count, blocks. -/
import Derived.Test.YtfbnidjcimcfoaaGreatCollAdd
import Derived.Test.YtfbnidjcimcfoaaGreatStash
set_option linter.unusedVariables false
set_option linter.unusedSimpArgs false
namespace Go.Proofs.YtfbnidjcimcfoaaGreat
namespace Col
open Go.RowKit Go.Maps Arn Pac Clm Cnt Evn
variable {W W' : World} {base base' : Nat} {v v' : Value} {l : List Nat}
theorem pl_cell (h : W.ownsRow base 46 2 v l.length (plCells l)) {j : Nat} (hj : j < l.length) :
    ∃ g c x, l[j]? = some x ∧ v = .slice (some ⟨g, 0, none⟩) l.length c ∧ W.cell? ⟨g, j * 2, none⟩ = some (.int .u64 (Cnt.hS (sgN x))) ∧ W.cell? ⟨g, j * 2 + 1, none⟩ = some (.int .i64 x) := by
  have h0 := h
  rcases h0.2 with ⟨_, e⟩ | ⟨g, cap, cur, rfl, _⟩
  · omega
  · obtain ⟨x, hx⟩ : ∃ x, l[j]? = some x := ⟨l[j], List.getElem?_eq_getElem hj⟩
    obtain ⟨a1, a2⟩ := plCells_get l j x hx
    exact ⟨g, cap, x, hx, rfl, (h.cellAt (j * 2) (by omega)).trans a1, (h.cellAt (j * 2 + 1) (by omega)).trans a2⟩
set_option maxRecDepth 100000 in
set_option maxHeartbeats 16000000 in
theorem rsameP_any (h : W.ownsRow base 46 2 v l.length (plCells l)) (h' : W.ownsRow base' 46 2 v' l.length (plCells l)) (h15 : l.length ≤ 15) :
    Calls Tryz.prog 36 #[v, v'] W fun e w' => e = .returned (.bool true) ∧ Frm.Turn [] W w' := by
  obtain ⟨a, c, rfl⟩ := Frm.row_form h
  obtain ⟨a', c', rfl⟩ := Frm.row_form h'
  have HA := Lib.hid h
  have HB := Lib.hid h'
  have H15 := Lib.hid h15
  have HT0 := Lib.hid (Frm.Turn.refl [] W)
  clear h h'
  obtain ⟨n, HN⟩ : ∃ n : Nat, Hid (n = l.length) := ⟨_, Lib.hid rfl⟩
  have n15 : (n : Int) ≤ 15 := by rw [HN.out]; omega
  have n0 : (0 : Int) ≤ (n : Int) := by omega
  clear h15
  rw [← HN.out]
  go_enter Tryz.func36, Tryz.ntmps36
  go_wp2_with fail
  go_loopw [13] (fun i wr => ∃ j : Nat, j ≤ n ∧ i = .int .i64 j ∧ Frm.Turn [] W wr) (fun i _ => n - (intOf i).toNat)
  case atStart => exact ⟨0, Nat.zero_le _, rfl, HT0.out⟩
  case round =>
    obtain ⟨j, hj, rfl, hT⟩ := hrel
    clear HT0
    have HT := Lib.hid hT
    have j0 : (0 : Int) ≤ (j : Int) := by omega
    by_cases hlt : j < n
    · have h1 : (j : Int) < (n : Int) := by omega
      have j15 : (j : Int) ≤ 15 := by omega
      obtain ⟨g, c1, x, hx, e1, p0, p1⟩ := pl_cell HA.out (show j < l.length by rw [← HN.out]; exact hlt)
      cases e1
      obtain ⟨g', c2, x', hx', e2, p0', p1'⟩ := pl_cell HB.out (show j < l.length by rw [← HN.out]; exact hlt)
      cases e2
      have ex : x' = x := by rw [hx] at hx'; cases hx'; rfl
      subst ex
      have HP : Hid (∀ W2, Frm.Turn [] wr W2 → W2.cell? ⟨g, j * 2, none⟩ = some (.int .u64 (Cnt.hS (sgN x'))) ∧ W2.cell? ⟨g, j * 2 + 1, none⟩ = some (.int .i64 x')) := Lib.hid (fun W2 h => ⟨(hT.trans h (by simp)).cell p0 (by simp), (hT.trans h (by simp)).cell p1 (by simp)⟩)
      have HQ : Hid (∀ W2, Frm.Turn [] wr W2 → W2.cell? ⟨g', j * 2, none⟩ = some (.int .u64 (Cnt.hS (sgN x'))) ∧ W2.cell? ⟨g', j * 2 + 1, none⟩ = some (.int .i64 x')) := Lib.hid (fun W2 h => ⟨(hT.trans h (by simp)).cell p0' (by simp), (hT.trans h (by simp)).cell p1' (by simp)⟩)
      have heq : ∀ w, (Op.equalIn 10000 46 (.agg #[.int .u64 (Cnt.hS (sgN x')), .int .i64 x']) (.agg #[.int .u64 (Cnt.hS (sgN x')), .int .i64 x'])).run Tryz.prog w = .ok true w := fun w => equal2 w _ _ _ _ true (by simp)
      have HLJ := Lib.hid hlt
      clear hx hx' p0 p1 p0' p1' hlt hj hT
      go_upto_region 6 with fail
      refine wp_region_held_drew (S := fun W' => Frm.Turn [] wr W') (by kernel_rfl) ?_ (fun hHeld => ?_)
      · exact (Frm.Turn.refl [] wr).drew
      refine wpAnyH_take (i := 0) (v := ?_) rfl (by kernel_rfl) (by kernel_rfl) (by kernel_rfl) (fun _ _ _ h => h) (Or.inl ⟨by rfl, ?_⟩) (by assumption) ?_
      rotate_left
      · (intro w hSw; (try dsimp only at hSw); go_simp; try with_reducible rfl)
      try simp only [Act.put, List.getElem_toArray, List.getElem_cons_succ, List.getElem_cons_zero, List.setIfInBounds_toArray, List.set_cons_zero, List.set_cons_succ]
      refine wpAnyH_take (i := 1) (v := ?_) rfl (by kernel_rfl) (by kernel_rfl) (by kernel_rfl) (fun _ _ _ h => h) (Or.inl ⟨by rfl, ?_⟩) (by assumption) ?_
      rotate_left
      · (intro w hSw; (try dsimp only at hSw); go_simp; try with_reducible rfl)
      try simp only [Act.put, List.getElem_toArray, List.getElem_cons_succ, List.getElem_cons_zero, List.setIfInBounds_toArray, List.set_cons_zero, List.set_cons_succ]
      refine wpAnyH_take (i := 2) (v := ?_) rfl (by kernel_rfl) (by kernel_rfl) (by kernel_rfl) (fun _ _ _ h => h) (Or.inl ⟨by rfl, ?_⟩) (by assumption) ?_
      rotate_left
      · (intro w hSw; (try dsimp only at hSw); go_simp; try with_reducible rfl)
      try simp only [Act.put, List.getElem_toArray, List.getElem_cons_succ, List.getElem_cons_zero, List.setIfInBounds_toArray, List.set_cons_zero, List.set_cons_succ]
      refine wpAnyH_take (i := 3) (v := ?_) rfl (by kernel_rfl) (by kernel_rfl) (by kernel_rfl) (fun _ _ _ h => h) (Or.inl ⟨by rfl, ?_⟩) (by assumption) ?_
      rotate_left
      · (intro w hSw; (try dsimp only at hSw); obtain ⟨p0, p1⟩ := HP.out w hSw; go_simp; try with_reducible rfl)
      try simp only [Act.put, List.getElem_toArray, List.getElem_cons_succ, List.getElem_cons_zero, List.setIfInBounds_toArray, List.set_cons_zero, List.set_cons_succ]
      refine wpAnyH_take (i := 4) (v := ?_) rfl (by kernel_rfl) (by kernel_rfl) (by kernel_rfl) (fun _ _ _ h => h) (Or.inl ⟨by rfl, ?_⟩) (by assumption) ?_
      rotate_left
      · (intro w hSw; (try dsimp only at hSw); go_simp; try with_reducible rfl)
      try simp only [Act.put, List.getElem_toArray, List.getElem_cons_succ, List.getElem_cons_zero, List.setIfInBounds_toArray, List.set_cons_zero, List.set_cons_succ]
      refine wpAnyH_take (i := 5) (v := ?_) rfl (by kernel_rfl) (by kernel_rfl) (by kernel_rfl) (fun _ _ _ h => h) (Or.inl ⟨by rfl, ?_⟩) (by assumption) ?_
      rotate_left
      · (intro w hSw; (try dsimp only at hSw); go_simp; try with_reducible rfl)
      try simp only [Act.put, List.getElem_toArray, List.getElem_cons_succ, List.getElem_cons_zero, List.setIfInBounds_toArray, List.set_cons_zero, List.set_cons_succ]
      refine wpAnyH_take (i := 6) (v := ?_) rfl (by kernel_rfl) (by kernel_rfl) (by kernel_rfl) (fun _ _ _ h => h) (Or.inl ⟨by rfl, ?_⟩) (by assumption) ?_
      rotate_left
      · (intro w hSw; (try dsimp only at hSw); go_simp; try with_reducible rfl)
      try simp only [Act.put, List.getElem_toArray, List.getElem_cons_succ, List.getElem_cons_zero, List.setIfInBounds_toArray, List.set_cons_zero, List.set_cons_succ]
      refine wpAnyH_take (i := 7) (v := ?_) rfl (by kernel_rfl) (by kernel_rfl) (by kernel_rfl) (fun _ _ _ h => h) (Or.inl ⟨by rfl, ?_⟩) (by assumption) ?_
      rotate_left
      · (intro w hSw; (try dsimp only at hSw); obtain ⟨p0, p1⟩ := HQ.out w hSw; go_simp; try with_reducible rfl)
      try simp only [Act.put, List.getElem_toArray, List.getElem_cons_succ, List.getElem_cons_zero, List.setIfInBounds_toArray, List.set_cons_zero, List.set_cons_succ]
      refine wpAnyH_take (i := 8) (v := ?_) rfl (by kernel_rfl) (by kernel_rfl) (by kernel_rfl) (fun _ _ _ h => h) (Or.inl ⟨by rfl, ?_⟩) (by assumption) ?_
      rotate_left
      · (intro w hSw; (try dsimp only at hSw); go_simp; try with_reducible rfl)
      try simp only [Act.put, List.getElem_toArray, List.getElem_cons_succ, List.getElem_cons_zero, List.setIfInBounds_toArray, List.set_cons_zero, List.set_cons_succ]
      refine wpAnyH_done (by kernel_rfl) ?_ _
      go_wp2_with fail
      refine ⟨⟨j + 1, HLJ.out, by simp, HT.out.trans hHeld (by simp)⟩, ?_⟩
      have := HLJ.out
      simp [intOf]; omega
    · obtain rfl : j = n := by omega
      have h1 : ¬ (j : Int) < (j : Int) := by omega
      clear hlt hj hT
      go_wp2_with fail
      go_ret
      exact ⟨rfl, HT.out⟩
end Col
end Go.Proofs.YtfbnidjcimcfoaaGreat

set_option linter.unusedVariables false
set_option linter.unusedSimpArgs false
namespace Go.Proofs.YtfbnidjcimcfoaaGreat
namespace Col
open Go.RowKit Go.Maps Arn Pac Clm Cnt Evn Sta

def blkP (x : Nat) (o : Obj) : Part := ⟨[x], [], fun W => W.heap[x]? = some o⟩
def coP (base r b : Nat) (C : Co) (v : Value) : Part := ⟨r :: v.ownBlock.toList, [], fun W => CoAt W base r b C v⟩
def enP (eb : Nat) (E : En) (CS : Array Value) (lv : Value) (G : List Nat) : Part := ⟨[eb], G ++ lv.ownBlock.toList, fun W => EnAt W eb E CS lv G⟩
def mP (mb : Nat) (A : Ar) (CS : Array Value) (G : List Nat) : Part := ⟨[mb], G, fun W => W.heap[mb]? = some (.cells CS 37 (0, 0)) ∧ RefS W A (.agg CS) G⟩
def ctP (r b q : Nat) (C : Ct) : Part := ⟨[r, q], [], fun W => CtAt W r b q C⟩
theorem blkP_fra (x : Nat) (o : Obj) : (blkP x o).Fra := fun W W' F h ht h1 _ => ht.keep h (h1 x (by simp [blkP]))
theorem coP_fra (base r b : Nat) (C : Co) (v : Value) : (coP base r b C v).Fra := fun W W' F h ht h1 _ => CoAt.turn h ht (h1 r (by simp [coP])) (fun q hq => h1 q (by simp [coP, hq]))
theorem enP_fra (eb : Nat) (E : En) (CS : Array Value) (lv : Value) (G : List Nat) : (enP eb E CS lv G).Fra := fun W W' F h ht h1 h2 => EnAt.turn h ht (h1 eb (by simp [enP])) (fun q hq => h2 q (by simp [enP, hq])) (fun q hq => h2 q (by simp [enP, hq]))
theorem mP_fra (mb : Nat) (A : Ar) (CS : Array Value) (G : List Nat) : (mP mb A CS G).Fra := fun W W' F h ht h1 h2 => ⟨ht.keep h.1 (h1 mb (by simp [mP])), h.2.turn ht (fun q hq => h2 q (by simpa [mP] using hq))⟩
theorem ctP_fra (r b q : Nat) (C : Ct) : (ctP r b q C).Fra := fun W W' F h ht h1 _ => CtAt.turn h ht (h1 r (by simp [ctP])) (h1 q (by simp [ctP]))
variable {w W W' : World} {b k n r q eb mb : Nat} {A B : Ar} {ps : List Part} {C : Co} {v lv : Value} {f : Nat → Nat → Int} {E : En} {CS : Array Value} {G : List Nat}
/-- A collect steps. -/
theorem sta_step (S : Stash w b A k (coP w.heap.size r b C v :: ps) W) (hk : k ≤ 1000000) (hn : n ≤ 4) (F : C.Fit n) (I : SegA A n f) :
    Calls Tryz.prog 34 #[.pointer (some ⟨r, 0, none⟩)] W fun e w' => e = .returned (.tuple #[]) ∧ ∃ v', Stash w b (C.acc A) (k + 1) (coP w.heap.size r b (C.step n f) v' :: ps) w' := by
  have hon : CoAt W w.heap.size r b C v := S.on _ (List.mem_cons_self ..)
  have hc : CoK w b (feet (coP w.heap.size r b C v :: ps)) r v C A k W := ⟨S.kin, hon, mem_feet (List.mem_cons_self ..) (in_own (by simp [coP])), S.low _ (List.mem_cons_self ..) r (by simp [coP]), fun q hq => mem_feet (List.mem_cons_self ..) (in_own (by simp [coP, hq]))⟩
  refine (stepO_any hc hk hn F I).mono ?_
  rintro e w' ⟨he, v', h1, ⟨F', hT, g1, g2⟩, h3⟩
  have o1 := (List.pairwise_cons.1 S.off).1
  have hrl := S.lt (p := coP w.heap.size r b C v) (List.mem_cons_self ..) (x := r) (in_own (by simp [coP]))
  refine ⟨he, v', S.both (h1.kin.sub fun x hx => ?_) hT (fun p hp x hx => g1 x (mem_feet (List.mem_cons_of_mem _ hp) hx) (fun e => ?_) (fun e => ?_)) (coP_fra _ _ _ _ _) h1.at_ (fun x hx => ?_) (by simp [coP]) (by simp [coP]) (by simp [coP])⟩
  · obtain ⟨p, hp, hx⟩ := feet_mem hx
    rcases List.mem_cons.1 hp with e | hp
    · rw [e] at hx
      simp only [Part.all, coP, List.append_nil, List.mem_cons] at hx
      rcases hx with hx | hx
      · rw [hx]; exact List.mem_append_right _ (mem_feet (List.mem_cons_self ..) (in_own (by simp [coP])))
      · exact List.mem_append_left _ hx
    · exact List.mem_append_right _ (mem_feet (List.mem_cons_of_mem _ hp) hx)
  · subst e
    have := (o1 p hp).1 x (by simp [coP])
    rcases List.mem_append.1 hx with g | g
    · exact this.1 g
    · exact this.2 g
  · have := (o1 p hp).1 x (by simp [coP, e])
    rcases List.mem_append.1 hx with g | g
    · exact this.1 g
    · exact this.2 g
  · simp only [coP, List.mem_cons] at hx ⊢
    rcases hx with hx | hx
    · exact .inl (.inl hx)
    · rcases h3 with e | ⟨q, e, hq⟩
      · rw [e] at hx; exact .inl (.inr hx)
      · rw [e] at hx; simp at hx; subst hx; exact .inr hq
/-- A count steps. -/
theorem sta_count {D : Ct} (S : Stash w b A k (ctP r b q D :: ps) W) (hk : k ≤ 1000000) (hrq : r ≠ q) (F : D.Fit) :
    Calls Tryz.prog 42 #[.pointer (some ⟨r, 0, none⟩)] W fun e w' => e = .returned (.tuple #[]) ∧ Stash w b (D.step A).1 (k + 1) (ctP r b q (D.step A).2 :: ps) w' := by
  have hon : CtAt W r b q D := S.on _ (List.mem_cons_self ..)
  have hl := S.low _ (List.mem_cons_self ..) r (by simp [ctP])
  refine (kin_stepC S.kin (by omega) (mem_feet (List.mem_cons_self ..) (in_own (by simp [ctP]))) (mem_feet (List.mem_cons_self ..) (in_own (by simp [ctP]))) hrq hl hon F).mono ?_
  rintro e w' ⟨he, h1, h2, F', hT, g1, g2⟩
  have o1 := (List.pairwise_cons.1 S.off).1
  refine ⟨he, S.both (h1.sub fun x hx => hx) hT (fun p hp x hx => g1 x (mem_feet (List.mem_cons_of_mem _ hp) hx) (fun e => ?_)) (ctP_fra _ _ _ _) h2 (fun x hx => .inl hx) (by simp [ctP]) (by simp [ctP]) (by simp [ctP])⟩
  cases e
  have := (o1 p hp).1 r (by simp [ctP])
  rcases List.mem_append.1 hx with g | g
  · exact this.1 g
  · exact this.2 g
/-- An environment turns by a call that keeps to it. -/
theorem sta_env {E' : En} (S : Stash w b A k (enP eb E CS lv G :: ps) W) (h : EnvB W lv G eb [] E' W') : ∃ CS' lv' G', Stash w b A k (enP eb E' CS' lv' G' :: ps) W' := by
  obtain ⟨⟨CS', lv', G', e1, _, e3, e4⟩, e5, _, _⟩ := h
  refine ⟨CS', lv', G', S.act e5 (by simp [enP]) (enP_fra _ _ _ _ _) e1 (fun x hx => .inl hx) (fun x hx => ?_) (fun x hx hx' => ?_)⟩
  · rcases List.mem_append.1 hx with g | g
    · rcases e3 x g with h | h
      · exact .inl ⟨_, List.mem_cons_self .., by simp [enP, h]⟩
      · exact .inr ⟨h, e1.gl x g⟩
    · have g' : lv'.ownBlock = some x := by simpa using g
      rcases e4 x g' with h | h
      · exact .inl ⟨_, List.mem_cons_self .., by simp [enP, h]⟩
      · exact .inr ⟨h, lv_lt e1 g'⟩
  · simp only [enP, List.mem_singleton] at hx
    subst hx
    rcases List.mem_append.1 hx' with g | g
    · exact e1.ge g
    · exact e1.le (by simpa using g)
/-- An environment begins anew upon the document's arena. -/
theorem sta_begin {CM : Array Value} {GM : List Nat} (S : Stash w b A k (enP eb E CS lv G :: ps) W) (hm : mP mb B CM GM ∈ ps) :
    Calls Tryz.prog 15 #[.pointer (some ⟨eb, 0, none⟩), .agg CM] W fun e w' => e = .returned (.tuple #[]) ∧ Stash w b A k (enP eb (E.begin B) CM lv GM :: ps) w' := by
  have hE : EnAt W eb E CS lv G := S.on _ (List.mem_cons_self ..)
  have hM := S.on _ (List.mem_cons_of_mem _ hm)
  have o1 := (List.pairwise_cons.1 S.off).1 _ hm
  have hg : eb ∉ GM := (o1.1 eb (by simp [enP])).2
  refine (begin_any hE B hM.2 hg (fun x hx => S.lt (List.mem_cons_of_mem _ hm) (in_imm hx))).mono ?_
  rintro e w' ⟨he, h1, hT⟩
  refine ⟨he, S.act hT (by simp [enP]) (enP_fra _ _ _ _ _) h1 (fun x hx => .inl hx) (fun x hx => ?_) (fun x hx hx' => ?_)⟩
  · rcases List.mem_append.1 hx with g | g
    · exact .inl ⟨_, List.mem_cons_of_mem _ hm, g⟩
    · exact .inl ⟨_, List.mem_cons_self .., List.mem_append_right _ g⟩
  · simp only [enP, List.mem_singleton] at hx
    subst hx
    rcases List.mem_append.1 hx' with g | g
    · exact hg g
    · exact hE.le (by simpa using g)
/-- The document's arena is put anew, from the environment's. -/
theorem sta_put {CM : Array Value} {GM : List Nat} {E' : En} {CE : Array Value} {le : Value} {GE : List Nat} (S : Stash w b A k (mP mb B CM GM :: ps) W) (hm : enP eb E' CE le GE ∈ ps) (hz : CE.size = CM.size) : Stash w b A k (mP mb E'.A CE GE :: ps) (W.setRow mb CE) := by
  have hE : EnAt W eb E' CE le GE := S.on _ (List.mem_cons_of_mem _ hm)
  have hM := S.on _ (List.mem_cons_self ..)
  have o1 := (List.pairwise_cons.1 S.off).1 _ hm
  have hg : mb ∉ GE := fun h => (o1.1 mb (by simp [mP])).2 (List.mem_append_left _ h)
  have hT : Frm.Turn [mb] W (W.setRow mb CE) := setRow_turn (Frm.Turn.refl _ W) (.inl (by simp)) CE
  refine S.act hT (by simp [mP]) (mP_fra _ _ _ _) ⟨row_set CE hM.1, hE.m.turn hT (fun x hx => by simp only [List.mem_singleton]; rintro rfl; exact hg hx)⟩ (fun x hx => .inl hx) (fun x hx => .inl ⟨_, List.mem_cons_of_mem _ hm, List.mem_append_left _ hx⟩) (fun x hx hx' => ?_)
  simp only [mP, List.mem_singleton] at hx
  subst hx
  exact hg hx'
end Col
end Go.Proofs.YtfbnidjcimcfoaaGreat
