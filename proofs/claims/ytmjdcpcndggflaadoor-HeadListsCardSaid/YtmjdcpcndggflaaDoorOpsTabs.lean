/- A table of names and parts as a package-level variable: from what it reads as to its cells. No program is spoken of here. -/
import Derived.Test.YtmjdcpcndggflaaDoorOpsPlain
import Derived.OpenShut
import Derived.Lib.LaidTab
set_option linter.unusedVariables false
set_option linter.unusedSimpArgs false
namespace Go.Proofs.YtmjdcpcndggflaaDoor
namespace Ops
open Go.Lib

/-- A table as a row lists it. -/
def formOf {H : Type} (x : List UInt8 × Int × Int × Int) : DataW H := .agg [.lit (.string x.1), .agg [.lit (.int .i64 x.2.1), .lit (.int .i64 x.2.2.1), .lit (.int .i64 x.2.2.2)]]
def tabForm {H : Type} (T : Tab) : DataW H := .agg (T.map formOf)
/-- The cells of a table's variable, at the variable's block. -/
def TabCells (T : Tab) (g : Nat) (w : World) : Prop :=
  ∀ c, c < T.length → w.cell? ⟨g, 4 * c, none⟩ = some (.string ⟨(T.nm c).toArray⟩) ∧ w.cell? ⟨g, 4 * c + 1, none⟩ = some (.int .i64 (T.m0 c)) ∧ w.cell? ⟨g, 4 * c + 2, none⟩ = some (.int .i64 (T.m1 c)) ∧ w.cell? ⟨g, 4 * c + 3, none⟩ = some (.int .i64 (T.m2 c))

section
variable {H : Type} {enc : TypeId × Value → H} {P : Program} {w : World} {base : Nat} {spare : Nat → Bool} {held : Bool}
theorem piece {cs : List Value} {k n : Nat} {l : List Value} (h : (cs.drop k).take n = l) (i : Nat) (hi : i < l.length) : cs[k + i]? = l[i]? := by
  subst h
  simp at hi
  rw [List.getElem?_take, if_pos (by omega), List.getElem?_drop]
theorem form_cells {fuel : Nat} {t a i : TypeId} {s : TypeId} {cs : List Value} {x : List UInt8 × Int × Int × Int} {p : List MemPlace} {f0 f1 : Field}
    (ht : P.underlying t = some (.struct #[f0, f1])) (h0 : f0.type = s ∧ f0.offset = 0) (h1 : f1.type = a ∧ f1.offset = 1) (hs : P.underlying s = some .string) (ha : P.underlying a = some (.array 3 i)) (hi : P.underlying i = some (.int .i64))
    (cs1 : P.cellsOf s = 1) (ca : P.cellsOf a = 3) (ci : P.cellsOf i = 1)
    (h : DataW.trod enc P w base spare held fuel t cs = some (formOf x, p)) : cs[0]? = some (.string ⟨x.1.toArray⟩) ∧ cs[1]? = some (.int .i64 x.2.1) ∧ cs[2]? = some (.int .i64 x.2.2.1) ∧ cs[3]? = some (.int .i64 x.2.2.2) := by
  obtain ⟨xs, n, rfl, hx, hl, hn, hel⟩ := DataW.trod_struct ht h
  have e0 := hel 0 f0 rfl
  have e1 := hel 1 f1 rfl
  rw [h0.1, h0.2, cs1] at e0
  rw [h1.1, h1.2, ca] at e1
  have hn2 : xs.length = 2 := hn
  match xs, hn2, hx, e0, e1 with
  | [x0, x1], _, hx, e0, e1 =>
    simp only [formOf, Prod.mk.injEq, DataW.agg.injEq, List.map_cons, List.map_nil, List.cons.injEq, and_true] at hx
    obtain ⟨⟨g0, g1⟩, _⟩ := hx
    obtain ⟨st, q1, q2, _⟩ := DataW.trod_string hs (show DataW.trod _ _ _ _ _ _ _ _ _ = some x0 from e0)
    subst q2
    simp only [DataW.lit.injEq, Lit.string.injEq] at g0
    obtain ⟨ys, m, rfl, hy, yl, yn, yel⟩ := DataW.trod_array ha (show DataW.trod _ _ _ _ _ _ _ _ _ = some x1 from e1)
    have y0 := yel 0 (by omega)
    have y1 := yel 1 (by omega)
    have y2 := yel 2 (by omega)
    rw [ci] at y0 y1 y2
    match ys, yn, hy, y0, y1, y2 with
    | [z0, z1, z2], _, hy, y0, y1, y2 =>
      subst hy
      simp only [DataW.agg.injEq, List.map_cons, List.map_nil, List.cons.injEq, and_true] at g1
      obtain ⟨k0, k1, k2⟩ := g1
      obtain ⟨v0, c0, d0, _⟩ := DataW.trod_int hi (show DataW.trod _ _ _ _ _ _ _ _ _ = some z0 from y0)
      obtain ⟨v1, c1, d1, _⟩ := DataW.trod_int hi (show DataW.trod _ _ _ _ _ _ _ _ _ = some z1 from y1)
      obtain ⟨v2, c2, d2, _⟩ := DataW.trod_int hi (show DataW.trod _ _ _ _ _ _ _ _ _ = some z2 from y2)
      subst d0 d1 d2
      simp only [DataW.lit.injEq, Lit.int.injEq, true_and] at k0 k1 k2
      subst k0 k1 k2
      have w0 := piece q1 0 (by simp)
      have w1 := piece c0 0 (by simp)
      have w2 := piece c1 0 (by simp)
      have w3 := piece c2 0 (by simp)
      refine ⟨?_, ?_, ?_, ?_⟩
      · rw [w0, g0]; rfl
      · have := piece (cs := cs) (k := 1) (n := 3) rfl 0 (by rw [yl]; omega)
        rw [show cs[1]? = cs[1 + 0]? from rfl, this]; exact w1
      · have := piece (cs := cs) (k := 1) (n := 3) rfl 1 (by rw [yl]; omega)
        rw [show cs[2]? = cs[1 + 1]? from rfl, this]; exact w2
      · have := piece (cs := cs) (k := 1) (n := 3) rfl 2 (by rw [yl]; omega)
        rw [show cs[3]? = cs[1 + 2]? from rfl, this]; exact w3
theorem nm_get (T : Tab) (c : Nat) (h : c < T.length) : T[c]? = some (T.nm c, T.m0 c, T.m1 c, T.m2 c) := by
  unfold Tab.nm Tab.m0 Tab.m1 Tab.m2
  simp [List.getD, h]
theorem tab_cells {fuel : Nat} {r t a i s : TypeId} {cs : List Value} {T : Tab} {n : Nat} {p : List MemPlace} {f0 f1 : Field}
    (hr : P.underlying r = some (.array n t)) (ct : P.cellsOf t = 4) (hn : T.length = n)
    (ht : P.underlying t = some (.struct #[f0, f1])) (h0 : f0.type = s ∧ f0.offset = 0) (h1 : f1.type = a ∧ f1.offset = 1) (hs : P.underlying s = some .string) (ha : P.underlying a = some (.array 3 i)) (hi : P.underlying i = some (.int .i64))
    (cs1 : P.cellsOf s = 1) (ca : P.cellsOf a = 3) (ci : P.cellsOf i = 1)
    (h : DataW.trod enc P w base spare held fuel r cs = some (tabForm T, p)) (c : Nat) (hc : c < T.length) :
    cs[4 * c]? = some (.string ⟨(T.nm c).toArray⟩) ∧ cs[4 * c + 1]? = some (.int .i64 (T.m0 c)) ∧ cs[4 * c + 2]? = some (.int .i64 (T.m1 c)) ∧ cs[4 * c + 3]? = some (.int .i64 (T.m2 c)) := by
  obtain ⟨xs, m, rfl, hx, hl, hxn, hel⟩ := DataW.trod_array hr h
  have e := hel c (by omega)
  rw [ct] at e
  simp only [tabForm, Prod.mk.injEq, DataW.agg.injEq] at hx
  have hm := congrArg (·[c]?) hx.1
  simp only [List.getElem?_map, nm_get T c hc, Option.map_some] at hm
  obtain ⟨y, hy, hy2⟩ := Option.map_eq_some_iff.1 hm.symm
  rw [hy] at e
  obtain ⟨d, q⟩ := y
  simp only at hy2
  subst hy2
  have hf := form_cells ht h0 h1 hs ha hi cs1 ca ci e
  have hk : c * 4 = 4 * c := by omega
  rw [hk] at hf
  have key : ∀ j v, ((cs.drop (4 * c)).take 4)[j]? = some v → cs[4 * c + j]? = some v := by
    intro j v hj
    rw [List.getElem?_take] at hj
    split at hj
    · rw [List.getElem?_drop] at hj; exact hj
    · cases hj
  exact ⟨key 0 _ hf.1, key 1 _ hf.2.1, key 2 _ hf.2.2.1, key 3 _ hf.2.2.2⟩
theorem cells_of_var {T : Tab} {name : String} {g : Nat} {cs : Array Value} (hg : P.globalNamed name = some g) (hv : w.var? P name = some cs)
    (h : ∀ c, c < T.length → cs.toList[4 * c]? = some (.string ⟨(T.nm c).toArray⟩) ∧ cs.toList[4 * c + 1]? = some (.int .i64 (T.m0 c)) ∧ cs.toList[4 * c + 2]? = some (.int .i64 (T.m1 c)) ∧ cs.toList[4 * c + 3]? = some (.int .i64 (T.m2 c))) : TabCells T g w := by
  intro c hc
  obtain ⟨h0, h1, h2, h3⟩ := h c hc
  refine ⟨?_, ?_, ?_, ?_⟩
  · rw [World.var?_cell hg hv]; simpa using h0
  · rw [World.var?_cell hg hv]; simpa using h1
  · rw [World.var?_cell hg hv]; simpa using h2
  · rw [World.var?_cell hg hv]; simpa using h3
end
end Ops
end Go.Proofs.YtmjdcpcndggflaaDoor
