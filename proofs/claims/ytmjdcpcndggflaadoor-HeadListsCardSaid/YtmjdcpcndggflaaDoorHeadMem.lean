/- Entries in memory: a map of them, rows of them; blocks of words, cell by cell. -/
import Derived.Test.YtmjdcpcndggflaaDoorHeadPlain
import Derived.Test.YtmjdcpcndggflaaDoorArenaSin
set_option linter.unusedVariables false
set_option linter.unusedSimpArgs false
namespace Go.Proofs.YtmjdcpcndggflaaDoor
namespace Hed
open Go.RowKit Go.Maps Arn

theorem mapE : Tryd.prog.underlying 97 = some (.map 22 26) := by kernel_rfl
abbrev entV (e : Ent) : Value := .agg #[.int .i64 e.1, .int .u64 e.2.1, .int .u64 e.2.2]
abbrev zeroE : Ent := (0, 0, 0)
theorem zeroEV (w : World) : (zeroValue 26).run Tryd.prog w = .ok (entV zeroE) w := by kernel_rfl
def entD (e : Ent) : DataW Unit := .agg [.lit (.int .i64 e.1), .lit (.int .u64 e.2.1), .lit (.int .u64 e.2.2)]
theorem entD_inj {e f : Ent} (h : entD e = entD f) : e = f := by
  obtain ⟨a, b, c⟩ := e
  obtain ⟨a', b', c'⟩ := f
  simp [entD] at h
  obtain ⟨rfl, rfl, rfl⟩ := h
  rfl
/-- How an entry reads in a map. -/
def entR : Value → Option (DataW Unit × List MemPlace)
  | .agg c => match c.toList with
    | [.int .i64 a, .int .u64 b, .int .u64 d] => some (entD (a, b, d), [])
    | _ => none
  | _ => none
theorem entR_mk (e : Ent) : entR (entV e) = some (entD e, []) := rfl
theorem entR_inv {v : Value} {d : DataW Unit} {ps : List MemPlace} {e : Ent} (h : entR v = some (d, ps)) (hd : d = entD e) : v = entV e := by
  unfold entR at h
  split at h
  · rename_i c
    split at h
    · rename_i a b x hc
      simp only [Option.some.injEq, Prod.mk.injEq] at h
      have := entD_inj (h.1.trans hd)
      subst this
      show Value.agg c = _
      obtain ⟨l⟩ := c
      simp at hc
      subst hc
      rfl
    · cases h
  · cases h
/-- Block m is a map that reads as f, with n entries at most. -/
structure EAt (w : World) (m n : Nat) (f : Int → Option Ent) : Prop where
  rd : ∃ D, w.ownsMap Tryd.prog 22 entR m n D ∧ ∀ k : Int, Maps.has D (.int .u64 k) = (f k).isSome ∧ D.atKey (.int .u64 k) (entD zeroE) = entD ((f k).getD zeroE)
theorem EAt.turn {w w' : World} {m n : Nat} {f : Int → Option Ent} {F : List Nat} (h : EAt w m n f) (ht : Frm.Turn F w w') (hn : m ∉ F) : EAt w' m n f := by
  obtain ⟨D, ho, hD⟩ := h.rd
  obtain ⟨es, clock, hb, Fi, hs, hD'⟩ := ho
  exact ⟨D, ⟨es, clock, ht.keep hb hn, Fi, hs, hD'⟩, hD⟩
theorem EAt.lt {w : World} {m n : Nat} {f : Int → Option Ent} (h : EAt w m n f) : m < w.heap.size := by
  obtain ⟨D, ho, hD⟩ := h.rd
  exact ho.lt
theorem EAt.more {w : World} {m n : Nat} {f : Int → Option Ent} (h : EAt w m n f) : EAt w m (n + 1) f := by
  obtain ⟨D, ⟨es, c, hb, F, hs, hD⟩, hk⟩ := h.rd
  exact ⟨D, ⟨es, c, hb, F, Nat.le_succ_of_le hs, hD⟩, hk⟩
theorem eat_made (w : World) : EAt (w.alloc (.map #[] 0)) w.heap.size 0 (fun _ => none) :=
  ⟨.map [], World.ownsMap_made w _ _ _, fun k => ⟨rfl, rfl⟩⟩
theorem EAt.look2 {w : World} {m n : Nat} {f : Int → Option Ent} (h : EAt w m n f) {k : Int} (hk : W64 k) :
    (Instr.lookup 97 (.map (some m)) (.int .u64 k) true).run Tryd.prog w = .ok (.tuple #[entV ((f k).getD zeroE), .bool (f k).isSome]) w := by
  obtain ⟨D, ho, hD⟩ := h.rd
  obtain ⟨v, ps, hrun, hv⟩ := ho.look_ok keyU mapE (zeroEV w) (entR_mk zeroE) (key_u64 k hk)
  rw [hrun, entR_inv hv (hD k).2, (hD k).1]
theorem EAt.store {w : World} {m n : Nat} {f : Int → Option Ent} (h : EAt w m n f) (hn : n < maxLen) {k : Int} (hk : W64 k) (e : Ent) :
    ∃ w', (Instr.mapUpdate 97 (.map (some m)) (.int .u64 k) (entV e)).run Tryd.prog w = .ok () w' ∧ EAt w' m (n + 1) (fun j => if k = j then some e else f j) ∧ w.grownBy w' (some m) := by
  obtain ⟨D, ho, hD⟩ := h.rd
  obtain ⟨w', hrun, ho', ht⟩ := ho.update keyU mapE hn (key_u64 k hk) (entR_mk e)
  have htd := ho.tidy keyU
  refine ⟨w', hrun, ⟨_, ho', fun j => ?_⟩, ht⟩
  by_cases e2 : j = k
  · subst e2
    rw [if_pos rfl]
    exact ⟨Maps.has_put_same htd.isMap (show WideAt.IsKeyLit (.int .u64 j) from trivial) _, atKey_put_same htd.isMap (show WideAt.IsKeyLit (.int .u64 j) from trivial) _ _⟩
  · rw [if_neg (fun h : k = j => e2 h.symm), atKey_put_other (by simpa using e2), Maps.has_put_other (by simpa using e2)]
    exact hD j
theorem nil_look2 (w : World) (k : Int) (hk : W64 k) :
    (Instr.lookup 97 (.map none) (.int .u64 k) true).run Tryd.prog w = .ok (.tuple #[entV zeroE, .bool false]) w := by
  kernel_rfl
/-! ### blocks, cell by cell -/
theorem blk3 {W : World} {g : Nat} {x0 x1 x2 : Value} {t : TypeId} (h : W.heap[g]? = some (.cells #[x0, x1, x2] t (0, 0))) : (W.cell? ⟨g, 0, none⟩ = some x0 ∧ W.cell? ⟨g, 1, none⟩ = some x1 ∧ W.cell? ⟨g, 2, none⟩ = some x2) ∧ (W.frozen? ⟨g, 0, none⟩ = false ∧ W.frozen? ⟨g, 1, none⟩ = false ∧ W.frozen? ⟨g, 2, none⟩ = false) := by
  refine ⟨⟨?_, ?_, ?_⟩, Frm.frozen_row _ _ _ _ _ h, Frm.frozen_row _ _ _ _ _ h, Frm.frozen_row _ _ _ _ _ h⟩ <;> (rw [Frm.cell_row _ _ _ _ _ _ h]; rfl)
theorem blk7 {W : World} {g : Nat} {x0 x1 x2 x3 x4 x5 x6 : Value} {t : TypeId} (h : W.heap[g]? = some (.cells #[x0, x1, x2, x3, x4, x5, x6] t (0, 0))) :
    (W.cell? ⟨g, 0, none⟩ = some x0 ∧ W.cell? ⟨g, 1, none⟩ = some x1 ∧ W.cell? ⟨g, 2, none⟩ = some x2 ∧ W.cell? ⟨g, 3, none⟩ = some x3 ∧ W.cell? ⟨g, 4, none⟩ = some x4 ∧ W.cell? ⟨g, 5, none⟩ = some x5 ∧ W.cell? ⟨g, 6, none⟩ = some x6) ∧
    (W.frozen? ⟨g, 0, none⟩ = false ∧ W.frozen? ⟨g, 1, none⟩ = false ∧ W.frozen? ⟨g, 2, none⟩ = false ∧ W.frozen? ⟨g, 3, none⟩ = false ∧ W.frozen? ⟨g, 4, none⟩ = false ∧ W.frozen? ⟨g, 5, none⟩ = false ∧ W.frozen? ⟨g, 6, none⟩ = false) := by
  refine ⟨⟨?_, ?_, ?_, ?_, ?_, ?_, ?_⟩, Frm.frozen_row _ _ _ _ _ h, Frm.frozen_row _ _ _ _ _ h, Frm.frozen_row _ _ _ _ _ h, Frm.frozen_row _ _ _ _ _ h, Frm.frozen_row _ _ _ _ _ h, Frm.frozen_row _ _ _ _ _ h, Frm.frozen_row _ _ _ _ _ h⟩ <;> (rw [Frm.cell_row _ _ _ _ _ _ h]; rfl)
theorem heap_new (W : World) (o : Obj) : (W.alloc o).heap[W.heap.size]? = some o := World.alloc_heap_new W o
/-- Words that were just laid out. -/
theorem words_made (W : World) (l : List Int) : WordsAt (W.alloc (.cells (u64s l).toArray 22)) (.slice (some ⟨W.heap.size, 0, none⟩) l.length l.length) l := by
  refine .inr ⟨⟨W.heap.size, 0, none⟩, l.length, rfl, fun j u hu => ?_⟩
  have hadd : (⟨W.heap.size, 0, none⟩ : Addr).add j = ⟨W.heap.size, j, none⟩ := by unfold Addr.add; split <;> simp_all
  rw [hadd, Frm.cell_row _ _ _ _ _ _ (heap_new W _)]
  simpa using hu
theorem WordsAt.turn' {w w' : World} {v : Value} {l : List Int} (h : WordsAt w v l) (hT : Frm.Turn [] w w') : WordsAt w' v l := by
  rcases h with ⟨rfl, rfl⟩ | ⟨a, c, rfl, h⟩
  · exact .inl ⟨rfl, rfl⟩
  · exact .inr ⟨a, c, rfl, fun j u hu => hT.cell (h j u hu) (by simp)⟩
theorem WordsAt.form' {w : World} {v : Value} {l : List Int} (h : WordsAt w v l) : ∃ a c, v = .slice a l.length c := by
  rcases h with ⟨rfl, rfl⟩ | ⟨a, c, rfl, _⟩ <;> exact ⟨_, _, rfl⟩
theorem WordsAt.cellAt {w : World} {v : Value} {l : List Int} (h : WordsAt w v l) (hp : 0 < l.length) : ∃ a c, v = .slice (some a) l.length c ∧ ∀ j u, (u64s l)[j]? = some u → w.cell? (a.add j) = some u := by
  rcases h with ⟨rfl, rfl⟩ | ⟨a, c, rfl, h⟩
  · simp at hp
  · exact ⟨a, c, rfl, h⟩
theorem u64s_get {l : List Int} {j : Nat} (h : j < l.length) : (u64s l)[j]? = some (.int .u64 (l.getD j 0)) := by
  simp [u64s, h]
end Hed
end Go.Proofs.YtmjdcpcndggflaaDoor
