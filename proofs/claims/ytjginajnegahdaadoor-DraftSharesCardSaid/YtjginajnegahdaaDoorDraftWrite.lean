/- Writing a word that is none of noughts. -/
import Derived.Test.YtjginajnegahdaaDoorDraftPrune
set_option linter.unusedVariables false
set_option linter.unusedSimpArgs false
namespace Go.Proofs.YtjginajnegahdaaDoor
namespace Drf
open Go.RowKit Go.Maps

/-- A link's word written alone. -/
theorem DAtR.putW {w : World} {b : Nat} {S : Sh} {D : Dr} {R : Nat → List Nat} {N : Nat} (h : DAtR w b S D R N) {p : Place} (hp : D.Has p) (x : Int) (hk : (D.at p).k = none) (hx : W64 x) : DAtR (w.setCell (adr b S.B p) (.int .u64 x)) b S (D.put p ⟨x, none⟩) R N := by
  have hw := put_word_wf h.wf hx hp
  obtain ⟨⟨p1, p2, p3, p4⟩, ⟨p5, p6, p7⟩, p8, p9⟩ := h.parts
  obtain ⟨o, d⟩ := p
  cases o with
  | none =>
    simp only [Dr.Has] at hp
    have hT : Frm.Turn [b] w (w.setCell (adr b S.B (none, d)) (.int .u64 x)) := (Frm.Turn.refl [b] w).setCell (.inl (by simp [adr])) _
    refine ⟨?_, fun i hi => hT.keep (h.node i hi) ?_, fun l hl => ?_, ?_, h.known.turn hT (by simpa using fun e => p1 e.symm), hw, h.blen, h.apart⟩
    · refine (Frm.heap_set w b _ _ _ _ _ h.row).trans ?_
      obtain ⟨x0, x1, x2, e⟩ := list3 h.wf.three
      rw [e] at hp
      simp only [List.length_cons, List.length_nil] at hp
      simp only [Dr.at, e] at hk
      simp only [drCells, Dr.put, e]
      match d, hp with
      | 0, _ => simp at hk; simp [lnCells, hk]
      | 1, _ => simp at hk; simp [lnCells, hk]
      | 2, _ => simp at hk; simp [lnCells, hk]
    · simp only [List.mem_singleton]
      intro e
      exact p2 (by rw [← e]; exact getD_mem (by rw [h.blen]; exact hi))
    · exact Frm.owns_turn (h.fresh l hl) hT (fun k hk => by simp; rintro rfl; exact p3 l hk)
    · exact Frm.owns_turn h.drop hT (fun k hk => by simp; rintro rfl; exact p4 hk)
  | some i =>
    have hiB : i < S.B.length := by rw [h.blen]; exact hp.1
    have him := getD_mem hiB
    have hT : Frm.Turn [S.B.getD i 0] w (w.setCell (adr b S.B (some i, d)) (.int .u64 x)) := (Frm.Turn.refl [S.B.getD i 0] w).setCell (.inl (by simp [adr])) _
    refine ⟨hT.keep h.row (by simp; intro e; exact p2 (e ▸ him)), fun j hj => ?_, fun l hl => ?_, ?_, h.known.turn hT (by simp; intro e; exact p5 (e ▸ him)), hw, by rw [Dr.put_len]; exact h.blen, h.apart⟩
    · rw [Dr.put_len] at hj
      by_cases e : i = j
      · subst e
        rw [Dr.put_node i hp.1, if_pos rfl]
        refine (Frm.heap_set w _ _ _ _ _ _ (h.node i hp.1)).trans ?_
        have hp2 := hp.2
        obtain ⟨x0, x1, x2, x3, e⟩ := list4 (h.wf.four i hp.1).1
        rw [e] at hp2
        simp only [List.length_cons, List.length_nil] at hp2
        simp only [Dr.at, e] at hk
        simp only [ndCells, e]
        match d, hp2 with
        | 0, _ => simp at hk; simp [lnCells, hk]
        | 1, _ => simp at hk; simp [lnCells, hk]
        | 2, _ => simp at hk; simp [lnCells, hk]
        | 3, _ => simp at hk; simp [lnCells, hk]
      · rw [Dr.put_node j hj, if_neg (by simpa using e)]
        refine hT.keep (h.node j hj) ?_
        simp only [List.mem_singleton]
        exact fun e2 => getD_ne p8 hiB (by rw [h.blen]; exact hj) e e2.symm
    · exact Frm.owns_turn (h.fresh l hl) hT (fun k hk => by simp; rintro rfl; exact (p9 _ him).1 l hk)
    · exact Frm.owns_turn h.drop hT (fun k hk => by simp; rintro rfl; exact (p9 _ him).2 hk)
theorem noughts_at (d : Nat) : noughts.getD d ln0 = ln0 := by
  match d with
  | 0 => rfl
  | 1 => rfl
  | 2 => rfl
  | 3 => rfl
  | d + 4 => rfl
/-- Above a link that is none of noughts the nodes have words. -/
theorem way_live {D : Dr} : ∀ (r : List Place) (p : Place) (lv : Nat), Way D lv (p :: r) → D.at p ≠ ln0 → ∀ q, q ∈ r → D.Has q ∧ ∃ k, (D.at q).k = some k ∧ (D.node k).ls ≠ noughts := by
  intro r
  induction r with
  | nil => intro p lv _ _ q hq; simp at hq
  | cons u r ih =>
    intro p lv h hne q hq
    obtain ⟨k, hk, hpk⟩ := way_kid h
    have hu : D.Has u := by
      have := h.2.2.2.2.2
      exact (way_cons this).1
    have hlive : (D.node k).ls ≠ noughts := fun e => hne (by
      obtain ⟨o, d⟩ := p
      simp only at hpk
      subst hpk
      simp only [Dr.at, e, noughts_at])
    rcases List.mem_cons.1 hq with rfl | hq
    · exact ⟨hu, k, hk, hlive⟩
    · exact ih u (lv - 1) h.2.2.2.2.2 (fun e => by rw [e] at hk; cases hk) q hq
theorem cut_live {D : Dr} : ∀ (r : List Place), (∀ q, q ∈ r → ∃ k, (D.at q).k = some k ∧ (D.node k).ls ≠ noughts) → D.cut r = D := by
  intro r
  induction r with
  | nil => intro _; rfl
  | cons q r ih =>
    intro h
    obtain ⟨k, hk, hne⟩ := h q (by simp)
    have e : D.prune q = D := by
      unfold Dr.prune
      rw [if_neg]
      have : D.kidAt q = k := by simp [Dr.kidAt, hk]
      rw [this]; exact hne
    simp only [Dr.cut, e]
    exact ih fun u hu => h u (by simp [hu])
def pathL (b : Nat) (B : List Nat) (qs : List Place) : List Value := (qs.map fun q => .pointer (some (adr b B q))) ++ List.replicate (4 - qs.length) (.pointer none)
theorem pathL_set {b : Nat} {B : List Nat} {qs : List Place} (q : Place) (h : qs.length < 4) : (pathL b B qs).set qs.length (.pointer (some (adr b B q))) = pathL b B (qs ++ [q]) := by
  unfold pathL
  obtain ⟨m, hm⟩ : ∃ m, 4 - qs.length = m + 1 := ⟨3 - qs.length, by omega⟩
  rw [List.set_append_right _ _ (by simp), hm, List.replicate_succ]
  simp only [List.length_map, Nat.sub_self, List.set_cons_zero, List.map_append, List.map_cons, List.map_nil, List.append_assoc, List.singleton_append, List.length_append, List.length_singleton]
  rw [show 4 - (qs.length + 1) = m by omega]
theorem pathL_snoc {b : Nat} {B X : List Nat} {qs : List Place} (h : ∀ q, q ∈ qs → ∀ i, q.1 = some i → i < B.length) : pathL b (B ++ X) qs = pathL b B qs := by
  unfold pathL
  congr 1
  refine List.map_congr_left fun q hq => ?_
  rw [(adr_snoc (h q hq)).1]
theorem pathL_len {b : Nat} {B : List Nat} {qs : List Place} (h : qs.length ≤ 4) : (pathL b B qs).length = 4 := by
  simp [pathL]; omega
structure WrRel (w : World) (b pb : Nat) (S : Sh) (D : Dr) (N tree : Nat) (key : Int) (j : Nat) (S' : Sh) (p : Place) (r : List Place) (wr : World) : Prop where
  aft : Aft w b S (D.downTo tree key j).1 (N + j) S' wr
  ps : (D.downTo tree key j).2 = p :: r
  pth : wr.heap[pb]? = some (.cells (pathL b S'.B r.reverse).toArray 160 (0, 0))
  out : pb ∉ foot b S'
  new : w.heap.size ≤ pb
theorem WrRel.down {w : World} {b pb : Nat} {S : Sh} {D : Dr} {N tree : Nat} {key : Int} {j : Nat} {S' : Sh} {p : Place} {r : List Place} {wr : World} (h : WrRel w b pb S D N tree key j S' p r wr) (hw : Wf D N) (ht : tree < 3) (hj : j ≤ 4) : Down D N tree key j (D.downTo tree key j).1 (p :: r) := by
  have := downTo_is (key := key) hw ht j hj
  rwa [h.ps] at this
theorem downTo_next {D : Dr} {tree : Nat} {key : Int} {j : Nat} {p : Place} {r : List Place} (h : (D.downTo tree key j).2 = p :: r) : (D.downTo tree key (j + 1)).1 = (D.downTo tree key j).1.renew p j ∧ (D.downTo tree key (j + 1)).2 = (some (((D.downTo tree key j).1.renew p j).kidAt p), dig key j) :: p :: r := by
  simp only [Dr.downTo, h, List.headD_cons]
  exact ⟨trivial, trivial⟩
theorem WrRel.step {w : World} {b pb : Nat} {S : Sh} {D : Dr} {N tree : Nat} {key : Int} {j : Nat} {S' S2 : Sh} {p : Place} {r : List Place} {wr w2 : World} {X : List Nat} {g o : Nat} (h : WrRel w b pb S D N tree key j S' p r wr) (hw : Wf D N) (ht : tree < 3) (hj : j < 4)
    (hA : Aft wr b S' ((D.downTo tree key j).1.renew p j) (N + j + 1) S2 w2) (hB : S2.B = S'.B ++ X) (ha : adr b S'.B p = ⟨g, o, none⟩) (ha1 : adr1 b S'.B p = ⟨g, o + 1, none⟩) :
    ((∃ v, w2.cell? ⟨pb, j, none⟩ = some v) ∧ w2.frozen? ⟨pb, j, none⟩ = false ∧ pb < w2.heap.size) ∧
    (w2.setCell ⟨pb, j, none⟩ (.pointer (some ⟨g, o, none⟩))).cell? ⟨g, o + 1, none⟩ = some (.pointer (some ⟨S2.B.getD (((D.downTo tree key j).1.renew p j).kidAt p) 0, 0, none⟩)) ∧
    WrRel w b pb S D N tree key (j + 1) S2 (some (((D.downTo tree key j).1.renew p j).kidAt p), dig key j) (p :: r) (w2.setCell ⟨pb, j, none⟩ (.pointer (some ⟨g, o, none⟩))) := by
  have hdn := h.down hw ht (by omega)
  obtain ⟨hp, hl⟩ := way_cons hdn.way
  have hr : r.length = j := by have := hdn.len; simpa using this
  have hk := renew_kid (lv := j) hp
  have hp' : ((D.downTo tree key j).1.renew p j).Has p := (renew_has hp).1
  have hpl := (Array.getElem?_eq_some_iff.1 h.pth).1
  have hpw : pb < wr.heap.size := hpl
  have hout : pb ∉ foot b S2 := fun hm => by
    rcases hA.new pb hm with e | e
    · exact h.out e
    · omega
  have hpth := hA.turn.keep h.pth h.out
  have hlen : (pathL b S'.B r.reverse).length = 4 := pathL_len (by simp; omega)
  have hT : Frm.Turn [pb] w2 (w2.setCell ⟨pb, j, none⟩ (.pointer (some ⟨g, o, none⟩))) := (Frm.Turn.refl [pb] w2).setCell (.inl (by simp)) _
  have h3 := hA.at_.turn hT (fun k hk hm => hout (by simp at hm; exact hm ▸ hk))
  have hsn := adr_snoc (b := b) (B := S'.B) (X := X) (p := p) (fun i hi => by
    obtain ⟨o', d⟩ := p
    simp only at hi; subst hi
    rw [h.aft.at_.blen]; exact hp.1)
  refine ⟨⟨⟨(pathL b S'.B r.reverse)[j]'(by omega), (Frm.cell_row w2 pb j _ _ _ hpth).trans (by simp [hlen, hj])⟩, Frm.frozen_row w2 pb j _ _ hpth, Nat.lt_of_lt_of_le hpw hA.turn.size⟩, ?_, ?_⟩
  · have := (h3.link hp').1.2
    rw [hB, hsn.2, ha1, hk, ← hB] at this
    exact this
  · obtain ⟨n1, n2⟩ := downTo_next h.ps
    refine ⟨⟨by rw [n1]; exact h3, (h.aft.turn.trans hA.turn h.aft.new).setCell (.inr h.new) _, fun k hk => ?_⟩, n2, ?_, hout, h.new⟩
    · rcases hA.new k hk with e | e
      · exact h.aft.new k e
      · exact .inr (Nat.le_trans h.aft.turn.size e)
    · refine (Frm.heap_set w2 pb _ _ _ _ _ hpth).trans ?_
      have hrv : r.reverse.length = j := by simpa using hr
      have e := pathL_set (b := b) (B := S'.B) (qs := r.reverse) p (by omega)
      rw [hrv, ha] at e
      rw [List.setIfInBounds_toArray, e, List.reverse_cons, hB]
      rw [pathL_snoc]
      intro q hq i hi
      rw [h.aft.at_.blen]
      have hm : q ∈ p :: r := by simpa [or_comm] using hq
      have := (way_lvl _ _ hdn.way q hm).1
      obtain ⟨o', d⟩ := q
      simp only at hi; subst hi
      exact this.1
theorem WrRel.drewN {w : World} {b pb : Nat} {S : Sh} {D : Dr} {N tree : Nat} {key : Int} {j : Nat} {S' : Sh} {p : Place} {r : List Place} {wr : World} (h : WrRel w b pb S D N tree key j S' p r wr) (n : Nat) : WrRel w b pb S D N tree key j S' p r (wr.drewN n) :=
  ⟨h.aft.still ((Frm.Turn.refl [] wr).drewN n), h.ps, h.pth, h.out, h.new⟩
theorem way_put_all {D : Dr} {l : Nat} {p : Place} {r : List Place} {x : Ln} (h : Way D l (p :: r)) : Way (D.put p x) l (p :: r) := by
  cases r with
  | nil => exact ⟨Dr.put_has.2 h.1, by rw [Dr.put_lvl]; exact h.2.1, h.2.2⟩
  | cons q r =>
    have hu := way_up_put (x := x) h
    have hne := way_ne h q (by simp)
    obtain ⟨h1, h2, h3, h4, h5, h6⟩ := h
    exact ⟨Dr.put_has.2 h1, by rw [Dr.put_lvl]; exact h2, by rw [Dr.at_put_other (fun e => hne e.symm)]; exact h3, h4, h5, hu⟩
/-- The word written at the way's end. -/
theorem WrRel.fin {w : World} {b pb : Nat} {S : Sh} {D : Dr} {N tree : Nat} {key : Int} {S' : Sh} {p : Place} {r : List Place} {wr : World} {g o : Nat} {x : Int} (h : WrRel w b pb S D N tree key 4 S' p r wr) (hw : Wf D N) (ht : tree < 3) (hx : W64 x) (hx0 : x ≠ 0) (ha : adr b S'.B p = ⟨g, o, none⟩) :
    ((∃ v, wr.cell? ⟨g, o, none⟩ = some v) ∧ wr.frozen? ⟨g, o, none⟩ = false) ∧ Aft w b S (D.write tree key x) (N + 4) S' (wr.setCell ⟨g, o, none⟩ (.int .u64 x)) ∧
    (∃ q0 q1 q2 q3, r = [q3, q2, q1, q0] ∧ (wr.setCell ⟨g, o, none⟩ (.int .u64 x)).heap[pb]? = some (.cells #[.pointer (some (adr b S'.B q0)), .pointer (some (adr b S'.B q1)), .pointer (some (adr b S'.B q2)), .pointer (some (adr b S'.B q3))] 160 (0, 0))) ∧
    ∀ q, q ∈ r → (D.write tree key x).Has q ∧ ∃ k, ((D.write tree key x).at q).k = some k ∧ ((D.write tree key x).node k).ls ≠ noughts := by
  have hdn := h.down hw ht (by omega)
  obtain ⟨hp, hl⟩ := way_cons hdn.way
  have hk := last_kid hdn.wf hl
  have hl := h.aft.at_.link hp
  have hway5 := way_put_all (x := ⟨x, none⟩) hdn.way
  have hne5 : ((D.downTo tree key 4).1.put p ⟨x, none⟩).at p ≠ ln0 := by
    rw [Dr.at_put_same hp]
    intro e
    exact hx0 (congrArg Ln.w e)
  have hlive := way_live r p 4 hway5 hne5
  have hwr : D.write tree key x = (D.downTo tree key 4).1.put p ⟨x, none⟩ := by
    unfold Dr.write
    rw [h.ps]
    simp only [List.headD_cons, List.tail_cons]
    exact cut_live r (fun q hq => (hlive q hq).2)
  rw [hwr]
  have h5 := h.aft.at_.putW hp x hk hx
  have hR : (D.downTo tree key 4).1.row = ((D.downTo tree key 4).1.put p ⟨x, none⟩).row := funext fun l => row_put.symm
  rw [hR] at h5
  have hm := adr_mem h.aft.at_ hp
  rw [ha] at hl h5 hm
  have hgp : g ≠ pb := fun e => h.out (e ▸ hm)
  refine ⟨⟨⟨_, hl.1.1⟩, hl.2.1⟩, ⟨h5, h.aft.turn.setCell (h.aft.new g hm) _, h.aft.new⟩, ?_, hlive⟩
  have hr : r.length = 4 := by have := hdn.len; simpa using this
  obtain ⟨q3, q2, q1, q0, rfl⟩ := list4 hr
  exact ⟨q0, q1, q2, q3, rfl, (((Frm.Turn.refl [g] wr).setCell (.inl (by simp)) _).keep h.pth (by simpa using fun e => hgp e.symm)).trans rfl⟩
end Drf
end Go.Proofs.YtjginajnegahdaaDoor
