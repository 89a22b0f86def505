/- A queue's slice, anywhere in a block; a model in memory; enqueue, dequeue. -/
import Derived.Test.YtmodanjblbaedaaDoorModelTab4
set_option linter.unusedVariables false
set_option linter.unusedSimpArgs false
namespace Go.Proofs.YtmodanjblbaedaaDoor
namespace Mdl
open Go.RowKit Go.Maps

/-- A slice of ints: nil, or somewhere in a block. -/
def QAt (w : World) (v : Value) (xs : List Int) : Prop :=
  (v = .slice none 0 0 ∧ xs = []) ∨ ∃ g off cap cur, v = .slice (some ⟨g, off, none⟩) xs.length cap ∧ w.heap[g]? = some (.cells cur 3 (0, 0)) ∧ xs.length ≤ cap ∧ off + cap ≤ cur.size ∧ cap ≤ maxLen ∧ ∀ j x, xs[j]? = some x → cur[off + j]? = some (.int .i64 x)
theorem QAt.form {w : World} {v : Value} {xs : List Int} (h : QAt w v xs) : ∃ ao c, v = .slice ao xs.length c := by
  rcases h with ⟨rfl, rfl⟩ | ⟨g, off, cap, cur, rfl, _⟩
  · exact ⟨none, 0, rfl⟩
  · exact ⟨_, _, rfl⟩
theorem QAt.lt {w : World} {v : Value} {xs : List Int} (h : QAt w v xs) : ∀ k, v.ownBlock = some k → k < w.heap.size := by
  rcases h with ⟨rfl, rfl⟩ | ⟨g, off, cap, cur, rfl, hg, _⟩
  · intro k hk; simp [Value.ownBlock] at hk
  · intro k hk
    simp [Value.ownBlock] at hk
    subst hk
    exact (Array.getElem?_eq_some_iff.1 hg).1
theorem QAt.turn {w w' : World} {v : Value} {xs : List Int} {F : List Nat} (h : QAt w v xs) (ht : Frm.Turn F w w') (hn : ∀ k, v.ownBlock = some k → k ∉ F) : QAt w' v xs := by
  rcases h with h | ⟨g, off, cap, cur, rfl, hg, r⟩
  · exact .inl h
  · exact .inr ⟨g, off, cap, cur, rfl, ht.keep hg (hn g rfl), r⟩
theorem QAt.step {w w' : World} {v : Value} {xs : List Int} (h : QAt w v xs) (ht : Frm.Turn [] w w') : QAt w' v xs := h.turn ht (by simp)
theorem qat_nil (w : World) : QAt w (.slice none 0 0) [] := .inl ⟨rfl, rfl⟩
theorem qat_own {w : World} {base : Nat} {v : Value} {xs : List Int} {n : Nat} (h : w.ownsRow base 3 1 v n (xs.map (Value.int .i64))) : QAt w v xs := by
  have hn : xs.length = n := by have := h.1; simpa using this
  rcases h.2 with ⟨rfl, h0⟩ | ⟨g, cap, cur, rfl, _, hg, hc, hm, hs, ht⟩
  · exact .inl ⟨rfl, List.eq_nil_of_length_eq_zero (by omega)⟩
  · refine .inr ⟨g, 0, cap, cur, by rw [hn], hg, by omega, by omega, hm, fun j x hj => ?_⟩
    have hlt : j < xs.length := (List.getElem?_eq_some_iff.1 hj).1
    have := congrArg (·[j]?) ht
    simp only [List.getElem?_take, List.getElem?_map, hj, Option.map_some] at this
    rw [if_pos (by omega)] at this
    simpa using this
theorem hz_ : ∃ i0, Tryd.prog.info? 3 = some i0 ∧ i0.zero = some (.int .i64 0) ∧ i0.size = 1 ∧ i0.bytes = 8 := info_parts info_int

theorem QAt.cell {w : World} {g off n cap : Nat} {xs : List Int} (h : QAt w (.slice (some ⟨g, off, none⟩) n cap) xs) : xs.length = n ∧ n ≤ cap ∧ cap ≤ maxLen ∧ (∀ j x, xs[j]? = some x → w.cell? ⟨g, off + j, none⟩ = some (.int .i64 x)) ∧ ∀ j, j < cap → (w.cell? ⟨g, off + j, none⟩).isSome = true ∧ w.frozen? ⟨g, off + j, none⟩ = false := by
  rcases h with ⟨h, _⟩ | ⟨g', off', cap', cur, e, hg, hc, hs, hm, hx⟩
  · cases h
  · cases e
    refine ⟨rfl, hc, hm, fun j x hj => ?_, fun j hj => ⟨?_, Frm.frozen_row w g _ cur _ hg⟩⟩
    · rw [Frm.cell_row w g _ cur _ _ hg]; exact hx j x hj
    · rw [Frm.cell_row w g _ cur _ _ hg, Array.getElem?_eq_getElem (by omega)]; rfl
/-- One value more. -/
theorem QAt.push {w : World} {v : Value} {xs : List Int} (h : QAt w v xs) (y : Int) {ab af : Nat} {c : Nat} (hc : w.cell? ⟨ab, af, none⟩ = some (.int .i64 y)) (hl : xs.length ≤ 300) (ty : TypeId) :
    ∃ ao c' w', (Builtin.append_ #[28, 28] ty #[v, .slice (some ⟨ab, af, none⟩) 1 c]).run Tryd.prog w = .ok (.slice ao (xs.length + 1) c') w' ∧ QAt w' (.slice ao (xs.length + 1) c') (xs ++ [y]) ∧ Frm.Turn v.ownBlock.toList w w' ∧ ((Value.slice ao (xs.length + 1) c').ownBlock = v.ownBlock ∨ ∃ g, (Value.slice ao (xs.length + 1) c').ownBlock = some g ∧ w.heap.size ≤ g) := by
  obtain ⟨i0, hi, hz0, hz1, hz2⟩ := hz_
  have had : ∀ j u, [Value.int .i64 y][j]? = some u → w.cell? ((⟨ab, af, none⟩ : Addr).add j) = some u := by
    intro j u hj
    cases j with
    | zero =>
      simp at hj; subst hj
      rw [Addr.add_lit]; exact hc
    | succ j => simp at hj
  have h1 : ∀ u ∈ [Value.int .i64 y], u.oneCell' = true := by intro u hu; simp at hu; subst hu; rfl
  rcases h with ⟨rfl, rfl⟩ | ⟨g, off, cap, cur, rfl, hg, hcap, hs, hm, hx⟩
  · obtain ⟨v', w', hrun, ho, hgr, _⟩ := run_append_own (P := Tryd.prog) w w.heap.size 28 ty 3 i0 (.int .i64 0) 1 8 under_ints hi hz0 hz1 hz2 rfl (by decide) (.slice none 0 0) 0 [] (World.ownsRow_nil w _ _ 1) ⟨ab, af, none⟩ 1 c [.int .i64 y] rfl had h1 (by simp [maxLen]) (by simp) (Nat.le_refl _)
    have hq := qat_own (xs := [y]) ho
    obtain ⟨ao, c', rfl⟩ := hq.form
    refine ⟨ao, c', w', hrun, hq, Frm.Turn.of_grown hgr, Or.inr ?_⟩
    rcases ho.2 with ⟨_, h0⟩ | ⟨g, cap, cur, e, hb, _⟩
    · cases h0
    · refine ⟨g, ?_, hb⟩
      show (Value.slice ao [y].length c').ownBlock = some g
      rw [e]; rfl
  · by_cases hr : xs.length + 1 ≤ cap
    · have hcell : (w.cell? ⟨g, off + xs.length, none⟩).isSome = true := by
        rw [Frm.cell_row w g _ cur _ _ hg, Array.getElem?_eq_getElem (by omega)]; rfl
      have hrun := run_append_room_cells (P := Tryd.prog) w 28 ty 3 i0 under_ints hi g off xs.length cap ⟨ab, af, none⟩ 1 c [.int .i64 y] (by rw [hz1]; rfl) had h1 hr (fun j hj => by simp at hj; subst hj; rw [hz1]; simpa using hcell) (fun j hj => Frm.frozen_row w g _ cur _ hg)
      rw [hz1, Nat.mul_one] at hrun
      have hset : w.setCells g (off + xs.length) [Value.int .i64 y] = w.setCell ⟨g, off + xs.length, none⟩ (.int .i64 y) := rfl
      rw [hset] at hrun
      refine ⟨_, cap, _, hrun, Or.inr ⟨g, off, cap, _, ?_, Frm.heap_set w g (off + xs.length) cur _ _ (.int .i64 y) hg, ?_, ?_, hm, fun j x hj => ?_⟩, ?_, Or.inl rfl⟩
      · simp
      · simpa using hr
      · simpa using hs
      · rw [Array.getElem?_setIfInBounds]
        by_cases e : j = xs.length
        · subst e
          simp at hj
          subst hj
          rw [if_pos rfl, if_pos (by omega)]
        · rw [if_neg (by omega)]
          have hj2 : j < xs.length := by
            have := (List.getElem?_eq_some_iff.1 hj).1
            simp at this; omega
          rw [List.getElem?_append_left hj2] at hj
          exact hx j x hj
      · exact (Frm.Turn.refl _ _).setCell (Or.inl (by simp [Value.ownBlock])) _
    · obtain ⟨v', w', hrun, ho, hgr⟩ := run_append_arg_grows (P := Tryd.prog) w 28 ty 3 i0 (.int .i64 0) 1 8 under_ints hi hz0 hz1 hz2 rfl (by decide) ⟨g, off, none⟩ xs.length cap (xs.map (Value.int .i64)) (by simp) (fun j u hj => by
          rw [Addr.add_lit, Frm.cell_row w g _ cur _ _ hg]
          rw [List.getElem?_map] at hj
          obtain ⟨x, e1, rfl⟩ := Option.map_eq_some_iff.1 hj
          exact hx j x e1) ⟨ab, af, none⟩ 1 c [.int .i64 y] rfl had (by omega) (by unfold maxLen; omega) (by omega)
      have ho2 : w'.ownsRow w.heap.size 3 1 v' (xs.length + 1) ((xs ++ [y]).map (Value.int .i64)) := by simpa using ho
      have hq := qat_own ho2
      obtain ⟨ao, c', rfl⟩ := hq.form
      have el : (xs ++ [y]).length = xs.length + 1 := by simp
      rw [el] at hrun hq
      refine ⟨ao, c', w', hrun, hq, (Frm.Turn.of_grown hgr).mono (by simp), Or.inr ?_⟩
      rcases ho.2 with ⟨_, h0⟩ | ⟨g, cap, cur, e, hb, _⟩
      · omega
      · refine ⟨g, ?_, hb⟩
        rw [el] at e
        rw [e]; rfl
section
variable (w : World) {ops : Array Oper} {rest : List Oper} {o : Oper} {a : Act} {Q : Exit → Act → World → Prop}
theorem wpList_push (hg : o.guard = none) (s x : Operand) (hop : o.op = Op.call { callee := Callee.builtin Builtin.append, args := #[s, x], argTypes := #[28, 28] }) {v : Value} {xs : List Int} (h : QAt w v xs) (y : Int) (hl : xs.length ≤ 300) (ab af : Nat) (c : Nat) (hs : a.eval s = v) (hx : a.eval x = .slice (some ⟨ab, af, none⟩) 1 c) (hc : w.cell? ⟨ab, af, none⟩ = some (.int .i64 y))
    (hK : ∀ ao c' w', QAt w' (.slice ao (xs.length + 1) c') (xs ++ [y]) → Frm.Turn v.ownBlock.toList w w' → ((Value.slice ao (xs.length + 1) c').ownBlock = v.ownBlock ∨ ∃ g, (Value.slice ao (xs.length + 1) c').ownBlock = some g ∧ w.heap.size ≤ g) → wpList Tryd.prog ops Q rest (a.put o.dst (.slice ao (xs.length + 1) c')) w') : wpList Tryd.prog ops Q (o :: rest) a w := by
  refine wpList_plain hg fun K' hK' => ?_
  obtain ⟨ao, c', w', hrun, r1, r2, r3⟩ := h.push y hc hl (c := c) o.type
  unfold Oper.wp
  simp [execOp, hop, resolve, invoke, builtin, hs, hx, hrun, Result.andThen]
  exact hK' _ _ (hK ao c' w' r1 r2 r3)
end

/-! ### a model -/
def foot (b : Nat) (qv : Value) (pd ps : Option Nat) : List Nat := b :: (qv.ownBlock.toList ++ (pd.toList ++ ps.toList))
structure MIn (w : World) (b : Nat) (m : Mo) (qv : Value) (pd ps : Option Nat) : Prop where
  ok : MOk m
  body : w.heap[b]? = some (.cells #[qv, .map pd, .map ps] 59 (0, 0))
  q : QAt w qv m.q
  d : TAt w pd m.d
  s : TAt w ps m.s
  apart : (foot b qv pd ps).Nodup
def MAt (w : World) (b : Nat) (m : Mo) (F : List Nat) : Prop := ∃ qv pd ps, F = foot b qv pd ps ∧ MIn w b m qv pd ps
theorem MIn.lt {w : World} {b : Nat} {m : Mo} {qv : Value} {pd ps : Option Nat} (h : MIn w b m qv pd ps) : ∀ k, k ∈ foot b qv pd ps → k < w.heap.size := by
  intro k hk
  simp only [foot, List.mem_cons, List.mem_append, Option.mem_toList] at hk
  rcases hk with rfl | hk | hk | hk
  · exact (Array.getElem?_eq_some_iff.1 h.body).1
  · exact h.q.lt k hk
  · exact h.d.lt k hk
  · exact h.s.lt k hk
theorem MAt.lt {w : World} {b : Nat} {m : Mo} {F : List Nat} (h : MAt w b m F) : ∀ k, k ∈ F → k < w.heap.size := by
  obtain ⟨qv, pd, ps, rfl, h⟩ := h
  exact h.lt
theorem MIn.turn {w w' : World} {b : Nat} {m : Mo} {qv : Value} {pd ps : Option Nat} {F : List Nat} (h : MIn w b m qv pd ps) (ht : Frm.Turn F w w') (hn : ∀ k, k ∈ foot b qv pd ps → k ∉ F) : MIn w' b m qv pd ps :=
  ⟨h.ok, ht.keep h.body (hn b (by simp [foot])), h.q.turn ht (fun k hk => hn k (by simp [foot, hk])), h.d.turn ht (fun k hk => hn k (by simp [foot, hk])), h.s.turn ht (fun k hk => hn k (by simp [foot, hk])), h.apart⟩
theorem MAt.turn {w w' : World} {b : Nat} {m : Mo} {F G : List Nat} (h : MAt w b m F) (ht : Frm.Turn G w w') (hn : ∀ k, k ∈ F → k ∉ G) : MAt w' b m F := by
  obtain ⟨qv, pd, ps, rfl, h⟩ := h
  exact ⟨qv, pd, ps, rfl, h.turn ht hn⟩
theorem MAt.step {w w' : World} {b : Nat} {m : Mo} {F : List Nat} (h : MAt w b m F) (ht : Frm.Turn [] w w') : MAt w' b m F := h.turn ht (by simp)
/-- What a call upon a model leaves. -/
def MEnd (w : World) (b : Nat) (F : List Nat) (z : Mo × Rs) (e : Ending) (w' : World) : Prop := e = .returned (rv z.2) ∧ ∃ F', MAt w' b z.1 F' ∧ Frm.Turn F w w' ∧ ∀ k, k ∈ F' → k ∈ F ∨ w.heap.size ≤ k
end Mdl
end Go.Proofs.YtmodanjblbaedaaDoor
