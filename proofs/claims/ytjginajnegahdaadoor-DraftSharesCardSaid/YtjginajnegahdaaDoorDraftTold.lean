/- What is told of a link; the next new node that wasn't laid. -/
import Derived.Test.YtjginajnegahdaaDoorDraftAtKey
set_option linter.unusedVariables false
set_option linter.unusedSimpArgs false
namespace Go.Proofs.YtjginajnegahdaaDoor
namespace Drf
open Go.RowKit Go.Maps

theorem node_two {W : World} {g : Nat} {B : List Nat} {l0 l1 l2 l3 : Ln} {v8 v9 : Value} {t : TypeId} (h : W.heap[g]? = some (.cells ([l0, l1, l2, l3].flatMap (lnCells B) ++ [v8, v9]).toArray t (0, 0))) :
    (W.cell? ⟨g, 8, none⟩ = some v8 ∧ W.cell? ⟨g, 9, none⟩ = some v9) ∧ W.frozen? ⟨g, 8, none⟩ = false ∧ W.frozen? ⟨g, 9, none⟩ = false := by
  have hc := fun i => Frm.cell_row W g i _ _ _ h
  exact ⟨⟨(hc 8).trans rfl, (hc 9).trans rfl⟩, Frm.frozen_row W g 8 _ _ h, Frm.frozen_row W g 9 _ _ h⟩
theorem DAtR.mark {w : World} {b : Nat} {S : Sh} {D : Dr} {R : Nat → List Nat} {N : Nat} (h : DAtR w b S D R N) {k : Nat} (hk : k < D.made.length) :
    (w.cell? ⟨S.B.getD k 0, 8, none⟩ = some (.bool (D.node k).h.isSome) ∧ w.cell? ⟨S.B.getD k 0, 9, none⟩ = some (.int .u64 ((D.node k).h.getD 0))) ∧ w.frozen? ⟨S.B.getD k 0, 8, none⟩ = false ∧ w.frozen? ⟨S.B.getD k 0, 9, none⟩ = false := by
  have hn := h.node k hk
  obtain ⟨l0, l1, l2, l3, e⟩ := list4 (h.wf.four k hk).1
  simp only [ndCells, e] at hn
  exact node_two hn
set_option maxRecDepth 10000 in
set_option maxHeartbeats 2000000 in
theorem told_any {w : World} {b : Nat} {S : Sh} {D : Dr} {R : Nat → List Nat} {N : Nat} (h : DAtR w b S D R N) (x : Ln) (hx : LnOk D x) :
    Calls Tryd.prog 48 #[.agg #[.int .u64 x.w, .pointer (ptrA S.B x.k)]] w fun e w' => e = .returned (.int .u64 (D.told x)) ∧ Frm.Turn [] w w' := by
  obtain ⟨y, k⟩ := x
  have HT := Lib.hid (fun o => (Frm.Turn.refl [] w).alloc o)
  cases k with
  | none =>
    show Calls _ _ #[.agg #[.int .u64 y, .pointer none]] _ _
    have HE : Hid (D.told ⟨y, none⟩ = y) := Lib.hid rfl
    clear h hx
    go_enter Tryd.func48, Tryd.ntmps48
    go_wp2
    go_ret
    exact ⟨by rw [HE.out]; rfl, HT.out _⟩
  | some k =>
    show Calls _ _ #[.agg #[.int .u64 y, .pointer (some ⟨S.B.getD k 0, 0, none⟩)]] _ _
    obtain ⟨c8, c9⟩ := (h.mark (hx.2 k rfl)).1
    have HE : Hid (D.told ⟨y, some k⟩ = (D.node k).h.getD 0) := Lib.hid rfl
    generalize S.B.getD k 0 = g at c8 c9 ⊢
    generalize (D.node k).h.getD 0 = z at c9 HE
    have hgl := World.block_lt_of_cell? w _ c9
    simp only at hgl
    clear h hx
    go_enter Tryd.func48, Tryd.ntmps48
    go_wp2
    go_ret
    exact ⟨by rw [HE.out]; rfl, HT.out _⟩

/-! ### the next one -/
theorem find_append {α : Type} {p : α → Bool} {l m : List α} : (l ++ m).find? p = (l.find? p).or (m.find? p) := by
  induction l with
  | nil => rfl
  | cons x r ih =>
    simp only [List.cons_append, List.find?_cons]
    split
    · rfl
    · exact ih
/-- Of the levels below n, the greatest ahead: the first node that wasn't laid. -/
def Dr.nextBelow (D : Dr) : Nat → Option Nat
  | 0 => none
  | n + 1 => ((D.row n).find? fun i => (D.node i).h.isNone).or (D.nextBelow n)
theorem next_is (D : Dr) : D.next = D.nextBelow 4 := by
  unfold Dr.next Dr.order
  simp only [find_append, Dr.nextBelow, Option.or_none]
theorem next_mem {D : Dr} : ∀ n i, D.nextBelow n = some i → ∃ l, l < n ∧ i ∈ D.row l := by
  intro n
  induction n with
  | zero => intro i h; cases h
  | succ n ih =>
    intro i h
    simp only [Dr.nextBelow, Option.or_eq_some_iff] at h
    rcases h with h | ⟨_, h⟩
    · exact ⟨n, by omega, List.mem_of_find?_eq_some h⟩
    · obtain ⟨l, hl, hi⟩ := ih i h
      exact ⟨l, by omega, hi⟩
theorem find_drop {p : Nat → Bool} {l : List Nat} {q : Nat} (h : ∀ i, i < q → ∀ x, l[i]? = some x → p x = false) : l.find? p = (l.drop q).find? p := by
  induction q generalizing l with
  | zero => rfl
  | succ q ih =>
    cases l with
    | nil => rfl
    | cons x r =>
      have h0 := h 0 (by omega) x rfl
      simp only [List.find?_cons, h0, List.drop_succ_cons]
      exact ih fun i hi y hy => h (i + 1) (by omega) y (by simpa using hy)
theorem row_cell {w : World} {t : TypeId} {ao : Option Addr} {len c q x : Nat} {B L : List Nat} (h : w.ownsRow 0 t 1 (.slice ao len c) len (ptrs B L)) (hx : L[q]? = some x) (hq : q < len) : ∃ g, ao = some ⟨g, 0, none⟩ ∧ w.cell? ⟨g, q, none⟩ = some (.pointer (some ⟨B.getD x 0, 0, none⟩)) := by
  rcases h.2 with ⟨e, e0⟩ | ⟨g, cap, cur, e, _, hg, _, _, _, ht⟩
  · omega
  · simp only [Value.slice.injEq] at e
    refine ⟨g, e.1, (Frm.cell_row w g q _ _ _ hg).trans ?_⟩
    have h1 : (cur.toList.take (len * 1))[q]? = some (.pointer (some ⟨B.getD x 0, 0, none⟩)) := by
      rw [ht]
      simp only [ptrs, List.getElem?_map, hx, Option.map_some]
      rfl
    rw [List.getElem?_take_of_lt (by omega)] at h1
    simpa using h1
set_option maxRecDepth 100000 in
set_option maxHeartbeats 4000000 in
theorem next_any {w : World} {b : Nat} {S : Sh} {D : Dr} {N : Nat} (h : DAt w b S D N) (hN : N ≤ 1000000) :
    Calls Tryd.prog 47 #[.pointer (some ⟨b, 0, none⟩)] w fun e w' => e = .returned (ptrV S.B D.next) ∧ w = w' := by
  have HD := Lib.hid h
  rw [next_is]
  have hbl := h.lt b (by simp [foot])
  clear h
  go_enter Tryd.func47, Tryd.ntmps47
  go_wp2_with fail
  go_loopw [3] (fun i wr => ∃ n : Nat, n ≤ 4 ∧ i = .int .i64 ((n : Int) - 1) ∧ D.nextBelow 4 = D.nextBelow n ∧ wr = w) (fun i _ => (intOf i + 1).toNat)
  case atStart => exact ⟨4, by omega, rfl, rfl, rfl⟩
  case round =>
    obtain ⟨n, hn, rfl, hE, rfl⟩ := hrel
    cases n with
    | zero =>
      have HE := Lib.hid hE
      have t0 : decide ((0 : Int) ≤ ((0 : Nat) : Int) - 1) = false := by decide
      clear hE
      go_wp2
      go_ret
      exact ⟨by rw [HE.out]; rfl, rfl⟩
    | succ n =>
      rw [show ((n + 1 : Nat) : Int) - 1 = (n : Int) by omega]
      have HE := Lib.hid hE
      obtain ⟨cF, fF⟩ := HD.out.own.2.2.2.1 n (by omega)
      have hrow := HD.out.fresh n (by omega)
      obtain ⟨ao, c, hsl⟩ := Frm.row_form hrow
      rw [hsl] at cF hrow
      have HROW := Lib.hid hrow
      have hlen : (D.row n).length ≤ 1000000 := by have := row_le D n; have := HD.out.wf.made; omega
      have t0 : decide ((0 : Int) ≤ (n : Int)) = true := by simp
      have q0 : (0 : Int) ≤ (n : Int) := by omega
      have q1 : (n : Int) < 4 := by omega
      clear hE hrow hsl fF
      obtain ⟨m, hm⟩ : ∃ m, m = (D.row n).length := ⟨_, rfl⟩
      rw [← hm] at cF hlen
      have HM := Lib.hid hm
      clear hm
      go_wp2_with fail
      go_loopw [19] (fun i wr' => ∃ q : Nat, q ≤ m ∧ i = .int .i64 q ∧ (∀ i' : Nat, i' < q → ∀ x, (D.row n)[i']? = some x → (D.node x).h.isNone = false) ∧ wr' = wr) (fun i _ => m - (intOf i).toNat)
      case atStart => exact ⟨0, by omega, rfl, fun i' hi => by omega, rfl⟩
      case round =>
        obtain ⟨q, hq, rfl, hQ, rfl⟩ := hrel
        by_cases hlt : q < m
        · obtain ⟨x, hx⟩ : ∃ x, (D.row n)[q]? = some x := ⟨_, List.getElem?_eq_getElem (by rw [← HM.out]; exact hlt)⟩
          have hmem := List.mem_of_getElem? hx
          have hr := HROW.out
          rw [← HM.out] at hr
          obtain ⟨gr, rfl, cR⟩ := row_cell hr hx hlt
          obtain ⟨c8, c9⟩ := (HD.out.mark (row_mem.1 hmem).1).1
          have hq0 : (0 : Int) ≤ q := by omega
          have hq1 : (q : Int) < m := by omega
          have HX := Lib.hid hx
          have HQ := Lib.hid hQ
          obtain ⟨gx, hgx⟩ : ∃ gx, gx = S.B.getD x 0 := ⟨_, rfl⟩
          rw [← hgx] at cR c8
          have HGX := Lib.hid hgx
          clear hx hQ hmem hr c9 hgx
          obtain ⟨s, hs⟩ : ∃ s, s = (D.node x).h.isSome := ⟨_, rfl⟩
          rw [← hs] at c8
          have HS := Lib.hid hs
          clear hs
          cases s with
          | true =>
            have hlt' : (q : Int) < m := hq1
            go_wp2
            refine ⟨⟨q + 1, by omega, by simp, fun i' hi y hy => ?_, trivial⟩, ?_⟩
            · rcases Nat.lt_or_ge i' q with h1 | h1
              · exact HQ.out i' h1 y hy
              · obtain rfl : i' = q := by omega
                rw [HX.out] at hy
                cases hy
                have := HS.out
                cases hh : (D.node x).h with
                | none => rw [hh] at this; cases this
                | some _ => rfl
            · simp [intOf]; omega
          | false =>
            have hEN : Hid (D.nextBelow 4 = some x) := Lib.hid (by
              rw [HE.out]
              simp only [Dr.nextBelow]
              rw [find_drop HQ.out, List.drop_eq_getElem_cons (by rw [← HM.out]; exact hlt)]
              have hxx : (D.row n)[q]'(by rw [← HM.out]; exact hlt) = x := by
                have := HX.out
                rw [List.getElem?_eq_getElem (by rw [← HM.out]; exact hlt)] at this
                exact Option.some.inj this
              rw [hxx, List.find?_cons]
              have h0 : (D.node x).h.isNone = true := by
                have := HS.out
                cases hh : (D.node x).h with
                | none => rfl
                | some _ => rw [hh] at this; cases this
              rw [h0]
              rfl)
            go_wp2
            go_ret
            exact ⟨by rw [hEN.out]; simp only [ptrV, ptrA, Option.map_some, ← HGX.out]; rfl, rfl⟩
        · obtain rfl : q = m := by omega
          have hEN : Hid (D.nextBelow 4 = D.nextBelow n) := Lib.hid (by
            rw [HE.out]
            simp only [Dr.nextBelow]
            rw [find_drop hQ, List.drop_eq_nil_of_le (by rw [← HM.out]; exact Nat.le_refl _)]
            rfl)
          clear hQ
          go_wp2
          exact ⟨⟨n, by omega, rfl, hEN.out, trivial⟩, by simp [intOf]⟩
end Drf
end Go.Proofs.YtjginajnegahdaaDoor
