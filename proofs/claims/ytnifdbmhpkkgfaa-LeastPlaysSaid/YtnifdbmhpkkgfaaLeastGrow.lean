/- An append to a row of the call's own that tells, too, that the cells up to the old length stand where they stood; a clone laid behind the other stocks. -/
import Derived.Test.YtnifdbmhpkkgfaaLeastMany
set_option linter.unusedVariables false
set_option linter.unusedSimpArgs false
namespace Go.Proofs.Ytnifdbmhpkkgfaa
namespace Frm
open Go.RowKit
/-- As 'step_append_own', and the old cells stand. -/
theorem step_append_old {P : Program} {ops : Array Oper} {o : Oper} {a : Act} {w : World} {K : Act → World → Prop} {Q : Exit → Act → World → Prop} {E : Prop}
    (hg : o.guard = none) (s x : Operand) (t : TypeId) (hop : o.op = Op.call { callee := Callee.builtin Builtin.append, args := #[s, x], argTypes := #[t, t] })
    (e : TypeId) (i : TypeInfo) (z : Value) (size bytes : Nat) (h1 : P.underlying t = some (.slice e)) (h2 : P.info? e = some i) (h3 : i.zero = some z) (h4 : i.size = size) (h5 : i.bytes = bytes) (h6 : z.cells.size = size) (h7 : 0 < size)
    (base g n cap : Nat) (xs : List Value) (hs : a.eval s = .slice (some ⟨g, 0, none⟩) n cap) (hown : w.ownsRow base e size (.slice (some ⟨g, 0, none⟩) n cap) n xs)
    (ad : Addr) (m c : Nat) (news : List Value) (hx : a.eval x = .slice (some ad) m c) (hn : news.length = m * size) (hc : ∀ j u, news[j]? = some u → w.cell? (ad.add j) = some u) (h1c : ∀ u ∈ news, u.oneCell' = true)
    (b1 : n + m ≤ maxLen) (b2 : (n + m) * bytes ≤ 140737488355328) (hbase : base ≤ w.heap.size)
    (hK : ∀ v' w', w'.ownsRow base e size v' (n + m) (xs ++ news) → w.grownBy w' (some g) → (v'.ownBlock = some g ∨ v'.ownBlock = some w.heap.size) → (∀ j, j < n * size → w'.cell? ⟨g, j, none⟩ = w.cell? ⟨g, j, none⟩) → K (a.put o.dst v') w') :
    if Region.wanted o (yielded ops a.tmps) = true then Oper.wp P o a w K Q else E := by
  have hw : Region.wanted o (yielded ops a.tmps) = true := by simp [Region.wanted, hg]
  rw [if_pos hw]
  obtain ⟨v', w', hrun, r1, r2, _, r3⟩ := run_append_own_at (P := P) w base t o.type e i z size bytes h1 h2 h3 h4 h5 h6 h7 (.slice (some ⟨g, 0, none⟩) n cap) n xs hown ad m c news hn hc h1c b1 b2 hbase
  have hold : ∀ j, j < n * size → w'.cell? ⟨g, j, none⟩ = w.cell? ⟨g, j, none⟩ := by
    subst h4
    subst h5
    rcases hown.2 with ⟨h, _⟩ | ⟨g', cap', cur, h, hb, hgw, hnc, hcm, hcs, htake⟩
    · cases h
    · cases h
      by_cases hroom : n + m ≤ cap
      · have hfit : n * i.size + news.length ≤ cur.size := by rw [hn, hcs, ← Nat.add_mul]; exact Nat.mul_le_mul_right _ hroom
        have hr := run_append_room (P := P) w t o.type e i h1 h2 g n cap cur hgw ad m c news hn hc h1c hroom hfit
        rw [hr] at hrun
        cases hrun
        intro j hj
        rw [cell_setRow_same w g j cur _ e (0, 0) hgw, cell_row w g j cur e (0, 0) hgw]
        rw [List.getElem?_toArray, List.append_assoc, List.getElem?_append_left (by rw [List.length_take]; simp; omega), List.getElem?_take, if_pos hj]
        simp
      · have hr := run_append_grow (P := P) w t o.type e i z h1 h2 h3 ⟨g, 0, none⟩ n cap xs hown.1 (hown.cells rfl) ad m c news hn hc (by omega) (by simp only [maxLen] at b1; omega) (growslice_fits (by omega) b2)
        rw [hr] at hrun
        cases hrun
        intro j hj
        have hlt : g < w.heap.size := (Array.getElem?_eq_some_iff.1 hgw).1
        exact World.cell?_of_block (w := w) (Below.heap_alloc w.drew _ g hlt)
  unfold Oper.wp
  simp [execOp, hop, resolve, invoke, builtin, hs, hx, hrun, Result.andThen]
  exact hK v' w' r1 (by simpa [Value.ownBlock] using r2) (by simpa [Value.ownBlock] using r3) hold
/-- The cells of a block that is known whole, as what is appended. -/
theorem news_of {w : World} {b : Nat} {cs : List Value} {t : TypeId} (h : w.heap[b]? = some (.cells cs.toArray t)) : ∀ j u, cs[j]? = some u → w.cell? ((⟨b, 0, none⟩ : Addr).add j) = some u := by
  intro j u hu
  have hadd : (⟨b, 0, none⟩ : Addr).add j = ⟨b, j, none⟩ := by unfold Addr.add; split <;> simp_all
  rw [hadd, cell_row w b j _ _ _ h]
  simpa using hu
end Frm
namespace Lst
open Go.RowKit Hp
def CloneCut (w0 : World) (most : Nat) (s11 s12 : Value) (W : World) : Prop :=
  ∃ (st : List One) (ga ca gw cw : Nat), s11 = .slice (some ⟨ga, 0, none⟩) st.length ca ∧ s12 = .slice (some ⟨gw, 0, none⟩) st.length cw ∧ Many w0 W most st ga ca gw cw ∧ ∀ (j : Nat) (x : One), st[j]? = some x → Agree most x
theorem clone_cut {w0 wr w1 w2 W2 w3 : World} {most : Nat} {st : List One} {ga ca gw cw i : Nat} {o : One} {b' : Nat} {F' : List Nat} {va vw : Value} (hM : Many w0 wr most st ga ca gw cw) (h4 : st.length < 4) (hx : st[i]? = some o) (hA : ∀ (j : Nat) (x : One), st[j]? = some x → Agree most x)
    (T1 : Frm.Turn [] wr w1) (hs : StockAt w1 b' F' o.S) (hF : ∀ k, k ∈ F' → wr.heap.size ≤ k) (T12 : Frm.Turn [ga] w1 w2) (ha : w2.ownsRow 0 24 1 va (st.length + 1) (st.map One.ptr ++ [.pointer (some ⟨b', 0, none⟩)]))
    (hla : va.ownBlock = some ga ∨ ∃ k, va.ownBlock = some k ∧ w1.heap.size ≤ k) (T2 : Frm.Turn [] w2 W2) (g3 : W2.grownBy w3 (some gw)) (hw : w3.ownsRow 0 37 3 vw (st.length + 1) (rowOf most st ++ o.cells most))
    (hlw : vw.ownBlock = some gw ∨ vw.ownBlock = some W2.heap.size) : CloneCut w0 most va vw w3 := by
  have hAg := hA i o hx
  have hE := hM.each i o hx
  obtain ⟨l1, l2⟩ := hM.lt
  have s1 := T1.size
  have s2 := T12.size
  have s3 := T2.size
  have s4 := g3.size
  have hne := hM.ne
  have halt := World.ownsRow.lt ha
  have T3 : Frm.Turn [gw] w2 w3 := (T2.mono (by simp)).trans (Frm.Turn.of_grown g3) (fun k hk => by simp at hk; simp [hk])
  have T13 : Frm.Turn [ga, gw] w1 w3 := (T12.mono (by simp)).trans T3 (fun k hk => by simp at hk; subst hk; left; simp)
  have Tr : Frm.Turn [ga, gw] wr w3 := (T1.mono (by simp)).trans T13 (fun k hk => Or.inl hk)
  have hbF : ∀ k, k ∈ F' → wr.heap.size ≤ k ∧ k < w1.heap.size := fun k hk => ⟨hF k hk, hs.lt k hk⟩
  have hva : ∀ k, va.ownBlock = some k → k = ga ∨ w1.heap.size ≤ k := fun k hk => by
    rcases hla with h | ⟨k', h, h'⟩
    · rw [h] at hk; cases hk; exact Or.inl rfl
    · rw [h] at hk; cases hk; exact Or.inr h'
  have hvw : ∀ k, vw.ownBlock = some k → k = gw ∨ w2.heap.size ≤ k := fun k hk => by
    rcases hlw with h | h
    · rw [h] at hk; cases hk; exact Or.inl rfl
    · rw [h] at hk; cases hk; exact Or.inr s3
  have hgwA : ∀ k, va.ownBlock = some k → k ≠ gw := fun k hk => by
    rcases hva k hk with h | h
    · omega
    · omega
  obtain ⟨ga', ca', gw', cw', e1, e2, hM'⟩ := hM.more (y := { o with b := b', F := F' }) h4 Tr (Frm.owns_turn ha T3 (fun k hk => by have := hgwA k hk; simpa using this)) hw
    (fun k hk => (hva k hk).imp id (fun h => by omega)) (fun k hk => (hvw k hk).imp id (fun h => by omega))
    (fun k hk hk' => by
      rcases hvw k hk' with h | h
      · exact hgwA k hk h
      · have := (halt k hk).2; omega)
    (hs.turn T13 (fun k hk => by have := hbF k hk; simp; omega)) (hE.list.turn Tr (fun k hk => by have := hE.far k hk; simp; omega))
    (fun k hk => by
      have h := hbF k hk
      refine ⟨h.1, fun e => ?_, fun e => ?_⟩
      · rcases hva k e with h' | h' <;> omega
      · rcases hvw k e with h' | h' <;> omega) ⟨i, o, hx, rfl⟩
  refine ⟨_, ga', ca', gw', cw', by simpa using e1, by simpa using e2, hM', fun j x hjx => ?_⟩
  rw [List.getElem?_append] at hjx
  split at hjx
  · exact hA j x hjx
  · have : x = { o with b := b', F := F' } := by
      cases hj : j - st.length with
      | zero => rw [hj] at hjx; simpa using hjx.symm
      | succ m => rw [hj] at hjx; simp at hjx
    subst this
    exact ⟨hAg.most, hAg.high, hAg.used, hAg.nodup, hAg.len⟩
theorem app_turn {w1 W w2 : World} {g : Nat} (h : Frm.Turn [] w1 W) (hg : W.grownBy w2 (some g)) : Frm.Turn [g] w1 w2 := (h.mono (by simp)).trans (Frm.Turn.of_grown hg) (fun k hk => Or.inl (by simpa using hk))
/-- Behind the first append: the places that the statement still reads. -/
theorem app1_held {wr w1 W w2 : World} {ga gw n i : Nat} {p x y v : Value} (T1 : Frm.Turn [] wr w1) (TW : Frm.Turn [] w1 W) (hg : W.grownBy w2 (some ga)) (hold : ∀ j, j < n * 1 → w2.cell? ⟨ga, j, none⟩ = W.cell? ⟨ga, j, none⟩) (hi : i < n) (hne : ga ≠ gw)
    (hS : ∀ X, Frm.Turn [] wr X → X.cell? ⟨ga, i, none⟩ = some p ∧ X.cell? ⟨gw, i * 3, none⟩ = some x ∧ X.cell? ⟨gw, i * 3 + 1, none⟩ = some y ∧ X.cell? ⟨gw, i * 3 + 2, none⟩ = some v) :
    w2.cell? ⟨ga, i, none⟩ = some p ∧ w2.cell? ⟨gw, i * 3, none⟩ = some x ∧ w2.cell? ⟨gw, i * 3 + 1, none⟩ = some y ∧ w2.cell? ⟨gw, i * 3 + 2, none⟩ = some v := by
  have TWW := T1.trans TW (by simp)
  obtain ⟨h1, h2, h3, h4⟩ := hS W TWW
  have T := app_turn (Frm.Turn.refl [] W) hg
  exact ⟨(hold i (by omega)).trans h1, T.cell h2 (by simp; omega), T.cell h3 (by simp; omega), T.cell h4 (by simp; omega)⟩
theorem app2_held {w2 W w3 : World} {ga gw n i : Nat} {p x y v : Value} (TW : Frm.Turn [] w2 W) (hg : W.grownBy w3 (some gw)) (hold : ∀ j, j < n * 3 → w3.cell? ⟨gw, j, none⟩ = W.cell? ⟨gw, j, none⟩) (hi : i < n) (hne : ga ≠ gw)
    (hS : w2.cell? ⟨ga, i, none⟩ = some p ∧ w2.cell? ⟨gw, i * 3, none⟩ = some x ∧ w2.cell? ⟨gw, i * 3 + 1, none⟩ = some y ∧ w2.cell? ⟨gw, i * 3 + 2, none⟩ = some v) :
    w3.cell? ⟨ga, i, none⟩ = some p ∧ w3.cell? ⟨gw, i * 3, none⟩ = some x ∧ w3.cell? ⟨gw, i * 3 + 1, none⟩ = some y ∧ w3.cell? ⟨gw, i * 3 + 2, none⟩ = some v := by
  obtain ⟨h1, h2, h3, h4⟩ := hS
  have T := app_turn (Frm.Turn.refl [] W) hg
  exact ⟨T.cell (TW.cell h1 (by simp)) (by simp; omega), (hold _ (by omega)).trans (TW.cell h2 (by simp)), (hold _ (by omega)).trans (TW.cell h3 (by simp)), (hold _ (by omega)).trans (TW.cell h4 (by simp))⟩
theorem loc_of {v : Value} {ga : Nat} {w1 W : World} (h : v.ownBlock = some ga ∨ v.ownBlock = some W.heap.size) (hs : w1.heap.size ≤ W.heap.size) : v.ownBlock = some ga ∨ ∃ k, v.ownBlock = some k ∧ w1.heap.size ≤ k :=
  h.imp id (fun e => ⟨_, e, hs⟩)
end Lst
end Go.Proofs.Ytnifdbmhpkkgfaa
