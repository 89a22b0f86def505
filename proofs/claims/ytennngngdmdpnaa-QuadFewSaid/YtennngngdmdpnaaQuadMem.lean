/- A map of nodes in memory, by what each handle reads as; an array of four words. -/
import Derived.Test.YtennngngdmdpnaaQuadPlain
import Derived.Test.YtennngngdmdpnaaArenaMem
set_option linter.unusedVariables false
set_option linter.unusedSimpArgs false
namespace Go.Proofs.Ytennngngdmdpnaa
namespace Qud
open Go.RowKit Go.Maps Arn

theorem size_arr : (Try.prog.info? 24).map (·.size) = some 4 := by kernel_rfl
theorem mapN : Try.prog.underlying 96 = some (.map 22 24) := by kernel_rfl
abbrev nodeV (l : List Int) : Value := .agg (u64s l).toArray
theorem zeroN (w : World) : (zeroValue 24).run Try.prog w = .ok (nodeV zero4) w := by kernel_rfl
def nd4 (l : List Int) : DataW Unit := .agg (l.map fun x => .lit (.int .u64 x))
theorem nd4_inj {l m : List Int} (h : nd4 l = nd4 m) : l = m := by
  unfold nd4 at h
  simp only [DataW.agg.injEq] at h
  induction l generalizing m with
  | nil => cases m with | nil => rfl | cons => cases h
  | cons x t ih =>
    cases m with
    | nil => cases h
    | cons y s =>
      simp only [List.map_cons, List.cons.injEq, DataW.lit.injEq, Lit.int.injEq, true_and] at h
      rw [h.1, ih h.2]
def intsOf : List Value → Option (List Int)
  | [] => some []
  | .int .u64 a :: t => (intsOf t).map (a :: ·)
  | _ => none
theorem intsOf_u64s (l : List Int) : intsOf (u64s l) = some l := by
  induction l with
  | nil => rfl
  | cons x t ih => simp only [u64s, List.map_cons] at ih ⊢; simp [intsOf, ih]
theorem intsOf_inv : ∀ {vs : List Value} {l : List Int}, intsOf vs = some l → vs = u64s l := by
  intro vs
  induction vs with
  | nil => intro l h; simp [intsOf] at h; subst h; rfl
  | cons v t ih =>
    intro l h
    unfold intsOf at h
    split at h
    · cases h; rename_i e; cases e
    · rename_i e
      cases e
      obtain ⟨m, hm, rfl⟩ := Option.map_eq_some_iff.1 h
      rw [ih hm]; rfl
    · cases h
/-- How a node reads in a map. -/
def nodeE : Value → Option (DataW Unit × List MemPlace)
  | .agg c => (intsOf c.toList).map fun l => (nd4 l, [])
  | _ => none
theorem nodeE_mk (l : List Int) : nodeE (nodeV l) = some (nd4 l, []) := by simp [nodeE, intsOf_u64s]
theorem nodeE_inv {v : Value} {d : DataW Unit} {ps : List MemPlace} {l : List Int} (h : nodeE v = some (d, ps)) (hd : d = nd4 l) : v = nodeV l := by
  unfold nodeE at h
  split at h
  · rename_i c
    obtain ⟨m, hm, e⟩ := Option.map_eq_some_iff.1 h
    cases e
    have := nd4_inj hd
    subst this
    have := intsOf_inv hm
    show Value.agg c = .agg (u64s m).toArray
    rw [← this]
  · cases h
/-- Block m is a map that reads as f, with n entries at most. -/
def NAt (w : World) (m n : Nat) (f : Int → List Int) : Prop := ∃ D, w.ownsMap Try.prog 22 nodeE m n D ∧ ∀ k : Int, D.atKey (.int .u64 k) (nd4 zero4) = nd4 (f k)
theorem NAt.turn {w w' : World} {m n : Nat} {f : Int → List Int} {F : List Nat} (h : NAt w m n f) (ht : Frm.Turn F w w') (hn : m ∉ F) : NAt w' m n f := by
  obtain ⟨D, ho, hD⟩ := h
  obtain ⟨es, clock, hb, Fi, hs, hD'⟩ := ho
  exact ⟨D, ⟨es, clock, ht.keep hb hn, Fi, hs, hD'⟩, hD⟩
theorem NAt.lt {w : World} {m n : Nat} {f : Int → List Int} (h : NAt w m n f) : m < w.heap.size := by
  obtain ⟨D, ho, hD⟩ := h
  exact ho.lt
theorem nat_made (w : World) : NAt (w.alloc (.map #[] 0)) w.heap.size 0 (fun _ => zero4) :=
  ⟨.map [], World.ownsMap_made w _ _ _, fun k => rfl⟩
theorem NAt.look {w : World} {m n : Nat} {f : Int → List Int} (h : NAt w m n f) {k : Int} (hk : W64 k) :
    (Instr.lookup 96 (.map (some m)) (.int .u64 k) false).run Try.prog w = .ok (nodeV (f k)) w := by
  obtain ⟨D, ho, hD⟩ := h
  obtain ⟨v, ps, hrun, hv⟩ := ho.lookup keyU mapN (zeroN w) (nodeE_mk zero4) (key_u64 k hk)
  rw [hrun, nodeE_inv hv (hD k)]
theorem NAt.store {w : World} {m n : Nat} {f : Int → List Int} (h : NAt w m n f) (hn : n < maxLen) {k : Int} (hk : W64 k) (l : List Int) :
    ∃ w', (Instr.mapUpdate 96 (.map (some m)) (.int .u64 k) (nodeV l)).run Try.prog w = .ok () w' ∧ NAt w' m (n + 1) (fun j => if k = j then l else f j) ∧ w.grownBy w' (some m) := by
  obtain ⟨D, ho, hD⟩ := h
  obtain ⟨w', hrun, ho', ht⟩ := ho.update keyU mapN hn (key_u64 k hk) (nodeE_mk l)
  have htd := ho.tidy keyU
  refine ⟨w', hrun, ⟨_, ho', fun j => ?_⟩, ht⟩
  show _ = nd4 (if k = j then l else f j)
  by_cases e : j = k
  · subst e
    rw [if_pos rfl]
    exact atKey_put_same htd.isMap (show WideAt.IsKeyLit (.int .u64 j) from trivial) _ _
  · rw [if_neg (fun h : k = j => e h.symm), atKey_put_other (by simpa using e)]
    exact hD j
/-- Four words as a whole. -/
theorem load4 (w : World) (g o : Nat) (a b c d : Int) (h : ∀ j u, (u64s [a, b, c, d])[j]? = some u → w.cell? ⟨g, o + j, none⟩ = some u) :
    (loadVar 24 ⟨g, o, none⟩).run Try.prog w = .ok (nodeV [a, b, c, d]) w := by
  have hl : (loadCells ⟨g, o, none⟩ 4).run Try.prog w = .ok (u64s [a, b, c, d]).toArray w :=
    run_loadCells_list (P := Try.prog) w ⟨g, o, none⟩ (u64s [a, b, c, d]) (fun j v hv => by
      have hadd : (⟨g, o, none⟩ : Addr).add j = ⟨g, o + j, none⟩ := by unfold Addr.add; split <;> simp_all
      rw [hadd]
      exact h j v hv)
  have hi := size_arr
  cases hq : Try.prog.info? 24 with
  | none => simp [hq] at hi
  | some i =>
    have hs : i.size = 4 := by simpa [hq] using hi
    have hagg : (isAgg 24).run Try.prog w = .ok true w := by
      unfold isAgg
      rw [Sem.run_bind, run_underlying Try.underlying24 w]
      simp
    simp [loadVar, Sem.run_bind, hagg, sizeOf, typeInfo, hq, hs, hl]
theorem size_u64 (w : World) : (sizeOf 22).run Try.prog w = .ok 1 w := by
  have hi : (Try.prog.info? 22).map (·.size) = some 1 := by kernel_rfl
  cases hq : Try.prog.info? 22 with
  | none => simp [hq] at hi
  | some i =>
    have hs : i.size = 1 := by simpa [hq] using hi
    simp [sizeOf, typeInfo, hq, hs]
theorem equal4_at (D : Nat) (w : World) (a0 a1 a2 a3 b0 b1 b2 b3 : Int)
    (e0 : ∀ x y : Int, (Op.equalIn D 22 (.int .u64 x) (.int .u64 y)).run Try.prog w = .ok (x == y) w) :
    (Op.equalIn (D + 1) 24 (.agg #[.int .u64 a0, .int .u64 a1, .int .u64 a2, .int .u64 a3]) (.agg #[.int .u64 b0, .int .u64 b1, .int .u64 b2, .int .u64 b3])).run Try.prog w = .ok (a0 == b0 && a1 == b1 && a2 == b2 && a3 == b3) w := by
  have p0 : ∀ x y z u : Int, (part 22 #[.int .u64 x, .int .u64 y, .int .u64 z, .int .u64 u] 0).run Try.prog w = .ok (.int .u64 x) w := fun x y z u => by kernel_rfl
  have p1 : ∀ x y z u : Int, (part 22 #[.int .u64 x, .int .u64 y, .int .u64 z, .int .u64 u] 1).run Try.prog w = .ok (.int .u64 y) w := fun x y z u => by kernel_rfl
  have p2 : ∀ x y z u : Int, (part 22 #[.int .u64 x, .int .u64 y, .int .u64 z, .int .u64 u] 2).run Try.prog w = .ok (.int .u64 z) w := fun x y z u => by kernel_rfl
  have p3 : ∀ x y z u : Int, (part 22 #[.int .u64 x, .int .u64 y, .int .u64 z, .int .u64 u] 3).run Try.prog w = .ok (.int .u64 u) w := fun x y z u => by kernel_rfl
  simp only [Op.equalIn, Sem.run_bind, run_underlying Try.underlying24, Result.andThen_ok, size_u64, Std.Legacy.Range.forIn_eq_forIn_range', Std.Legacy.Range.size]
  cases h0 : (a0 == b0) <;> cases h1 : (a1 == b1) <;> cases h2 : (a2 == b2) <;> cases h3 : (a3 == b3) <;> simp [List.range', Sem.run_bind, p0, p1, p2, p3, e0, h0, h1, h2, h3]
theorem equal4 (w : World) (a0 a1 a2 a3 b0 b1 b2 b3 : Int) (b : Bool) (h : (a0 == b0 && a1 == b1 && a2 == b2 && a3 == b3) = b) :
    (Op.equalIn 10000 24 (.agg #[.int .u64 a0, .int .u64 a1, .int .u64 a2, .int .u64 a3]) (.agg #[.int .u64 b0, .int .u64 b1, .int .u64 b2, .int .u64 b3])).run Try.prog w = .ok b w := by
  rw [← h]
  exact equal4_at 9999 w _ _ _ _ _ _ _ _ (fun x y => run_equalIn_int w 9998 22 .u64 .u64 x y Try.underlying22)
end Qud
end Go.Proofs.Ytennngngdmdpnaa
