/- From what the rows of layer 9 list to what the walks know; numbers, versions, entries as arguments. -/
/- Rows of words as an argument, opened. -/
/- Law HeadLists: for all blocks and every cursor, the entries behind the cursor, and their handles, are those that the document lists; nothing is counted, no fault told. The package's table of responses holds what the program's text lays there (the card ties that). -/
import Derived.Test.YtmjdcpcndggflaaDoorHeadMem
import Derived.Test.YtmjdcpcndggflaaDoorHeadOps
import Derived.Test.YtmjdcpcndggflaaDoorCards
import Derived.Test.YtmjdcpcndggflaaDoorTie
import Derived.ProofKit
import Derived.LaidMore
import Derived.OpenShut
import Derived.Stop.Joined
import Derived.Stop.LaidErr
import Derived.Deep.DeepHandedRow
import Derived.Deep.DeepWitnessRowRef
import Derived.Deep.Slices
import Derived.Deep.Fields
import Derived.ChangeSame
import Derived.Lib.LaidTab
import Derived.Lib.SmallJoins
import Derived.SevenTiedAt
import Derived.Test.YtmjdcpcndggflaaDoorQuadRows
import Derived.Test.YtmjdcpcndggflaaDoorHeadLists
set_option linter.unusedVariables false
set_option linter.unusedSimpArgs false
namespace Go.Proofs.YtmjdcpcndggflaaDoor
namespace Hed
open Go.ChangeShapes Go.WideShapes Go.ChangeAt Go.RowKit Go.Joins Go.Lib Go.Deep Arn

theorem laidOut : laidOutB Tryd.prog = true := by kernel_rfl
theorem own : ownKnob Tryd.prog.godebug = none := by kernel_rfl
theorem g_resps : Tryd.prog.globalNamed "roundelay/ops.responses" = some 0 := by kernel_rfl
/-- The list of the rows. -/
def laidL : List (String × DataW Unit) := [("roundelay/ops.responses", Rows.laid_roundelay_ops_responses)]
theorem resps_form : (Rows.laid_roundelay_ops_responses : DataW Unit) = Ops.tabForm Ops.respT := by kernel_rfl
theorem of_laid {W : World} (h : laidMetH Tryd.prog laidL W) : Ops.Kn W := by
  rw [MakeChecks.laidMetH_plain _ _ _ (by kernel_rfl)] at h
  refine ⟨?_⟩
  obtain ⟨ps, ⟨g', t', cs, fuel, p, q, hg', ht', hvar, hd, _, _⟩, _⟩ := h
  obtain rfl := Option.some.inj (g_resps.symm.trans hg')
  obtain rfl := Option.some.inj ((show (Tryd.prog.globals[0]?).map (·.type) = some 118 by kernel_rfl).symm.trans ht')
  rw [resps_form] at hd
  exact Ops.cells_of_var g_resps hvar (Ops.tab_cells Tryd.underlying118 (by kernel_rfl) rfl Tryd.underlying117 ⟨rfl, rfl⟩ ⟨rfl, rfl⟩ Tryd.underlying9 Tryd.underlying115 Tryd.underlying3 (by kernel_rfl) (by kernel_rfl) (by kernel_rfl) hd)

theorem under_int : Tryd.prog.underlying 3 = some (.int .i64) := by kernel_rfl
def fieldAt (P : Program) (t : TypeId) (i : Nat) : Option (TypeId × Nat) :=
  match P.underlying t with
  | some (.struct fs) => (fs[i]?).map fun f => (f.type, f.offset)
  | _ => none
def isStruct (P : Program) (t : TypeId) : Bool := match P.underlying t with | some (.struct _) => true | _ => false
theorem struct_is {P : Program} {t : TypeId} (h : isStruct P t = true) : ∃ fs, P.underlying t = some (.struct fs) := by
  unfold isStruct at h; split at h
  · rename_i fs hu; exact ⟨fs, hu⟩
  · cases h
theorem field_is {P : Program} {t : TypeId} {fs : Array Field} (hu : P.underlying t = some (.struct fs)) {i ty off : Nat} (h : fieldAt P t i = some (ty, off)) : ∃ f, fs[i]? = some f ∧ f.type = ty ∧ f.offset = off := by
  unfold fieldAt at h
  rw [hu] at h
  simp only [Option.map_eq_some_iff, Prod.mk.injEq] at h
  obtain ⟨f, hf, h1, h2⟩ := h
  exact ⟨f, hf, h1, h2⟩
section
variable {H : Type} {enc : TypeId × Value → H} {w : World} {base : Nat} {sp : Nat → Bool} {held : Bool}
theorem int_field {t : TypeId} {fs : Array Field} {fuel : Nat} {cs : List Value} {x : DataW H × List MemPlace} (hu : Tryd.prog.underlying t = some (.struct fs)) (h : DataW.trod enc Tryd.prog w base sp held fuel t cs = some x)
    {i ty off : Nat} {q : IntKind} (hf : fieldAt Tryd.prog t i = some (ty, off)) (hq : Tryd.prog.underlying ty = some (.int q)) (hc : Tryd.prog.cellsOf ty = 1) :
    ∃ z : Int, cs[off]? = some (.int q z) ∧ (Lit.int q z).wf = true := by
  obtain ⟨xs, n, _, _, hlen, hxl, hfs⟩ := DataW.trod_struct hu h
  obtain ⟨f, hfi, e1, e2⟩ := field_is hu hf
  have h1 := hfs i f hfi
  rw [e1, e2, hc] at h1
  have hi : i < fs.size := (Array.getElem?_eq_some_iff.1 hfi).1
  obtain ⟨y, hy⟩ : ∃ y, xs[i]? = some y := ⟨_, List.getElem?_eq_getElem (by omega)⟩
  rw [hy] at h1
  obtain ⟨z, hz, _, hw⟩ := DataW.trod_int hq h1
  refine ⟨z, ?_, hw⟩
  have : ((cs.drop off).take 1)[0]? = some (.int q z) := by rw [hz]; rfl
  simpa using this
theorem part_field {t : TypeId} {fs : Array Field} {fuel : Nat} {cs : List Value} {x : DataW H × List MemPlace} (hu : Tryd.prog.underlying t = some (.struct fs)) (h : DataW.trod enc Tryd.prog w base sp held fuel t cs = some x)
    {i ty off : Nat} (hf : fieldAt Tryd.prog t i = some (ty, off)) : ∃ n y, DataW.trod enc Tryd.prog w base sp held n ty ((cs.drop off).take (Tryd.prog.cellsOf ty)) = some y := by
  obtain ⟨xs, n, _, _, hlen, hxl, hfs⟩ := DataW.trod_struct hu h
  obtain ⟨f, hfi, e1, e2⟩ := field_is hu hf
  have h1 := hfs i f hfi
  have hi : i < fs.size := (Array.getElem?_eq_some_iff.1 hfi).1
  rw [e1, e2, List.getElem?_eq_getElem (by omega)] at h1
  exact ⟨n, _, h1⟩
theorem cells_ver : Tryd.prog.cellsOf 24 = 7 := by kernel_rfl
theorem cells_ent : Tryd.prog.cellsOf 26 = 3 := by kernel_rfl
set_option maxRecDepth 100000 in
theorem open_ver {H : Type} {enc : TypeId × Value → H} {W : World} {base base' : Nat} {sp : Nat → Bool} {held : Bool} {v : Value} {d : DataW H} {p : List MemPlace}
    (hv : Value.okWide Tryd.prog W .any base' 24 v) (h : DataW.Trod enc Tryd.prog W base sp held 24 v d p) :
    ∃ m ml q fr ql s sl : Int, v = .agg #[.int .u64 m, .int .i64 ml, .int .u64 q, .int .i64 fr, .int .i64 ql, .int .u64 s, .int .i64 sl] ∧ W64 m ∧ W64 q ∧ W64 s := by
  obtain ⟨cs, rfl, hsz⟩ := okWide_struct Tryd.underlying24 hv
  rw [cells_ver] at hsz
  obtain ⟨l⟩ := cs
  obtain ⟨fuel, hf⟩ := h
  have hf' : DataW.trod enc Tryd.prog W base sp held fuel 24 l = some (d, p) := hf
  obtain ⟨x0, h0, w0⟩ := int_field Tryd.underlying24 hf' (i := 0) (ty := 22) (off := 0) (q := .u64) (by kernel_rfl) under_u64 (by kernel_rfl)
  obtain ⟨x1, h1, w1⟩ := int_field Tryd.underlying24 hf' (i := 1) (ty := 3) (off := 1) (q := .i64) (by kernel_rfl) under_int (by kernel_rfl)
  obtain ⟨x2, h2, w2⟩ := int_field Tryd.underlying24 hf' (i := 2) (ty := 22) (off := 2) (q := .u64) (by kernel_rfl) under_u64 (by kernel_rfl)
  obtain ⟨x3, h3, w3⟩ := int_field Tryd.underlying24 hf' (i := 3) (ty := 3) (off := 3) (q := .i64) (by kernel_rfl) under_int (by kernel_rfl)
  obtain ⟨x4, h4, w4⟩ := int_field Tryd.underlying24 hf' (i := 4) (ty := 3) (off := 4) (q := .i64) (by kernel_rfl) under_int (by kernel_rfl)
  obtain ⟨x5, h5, w5⟩ := int_field Tryd.underlying24 hf' (i := 5) (ty := 22) (off := 5) (q := .u64) (by kernel_rfl) under_u64 (by kernel_rfl)
  obtain ⟨x6, h6, w6⟩ := int_field Tryd.underlying24 hf' (i := 6) (ty := 3) (off := 6) (q := .i64) (by kernel_rfl) under_int (by kernel_rfl)
  clear hf' hf hv
  match l, hsz with
  | [c0, c1, c2, c3, c4, c5, c6], _ =>
    simp at h0 h1 h2 h3 h4 h5 h6
    subst h0 h1 h2 h3 h4 h5 h6
    exact ⟨x0, x1, x2, x3, x4, x5, x6, rfl, of_wf_u64 w0, of_wf_u64 w2, of_wf_u64 w5⟩
set_option maxRecDepth 100000 in
theorem open_ent {H : Type} {enc : TypeId × Value → H} {W : World} {base base' : Nat} {sp : Nat → Bool} {held : Bool} {v : Value} {d : DataW H} {p : List MemPlace}
    (hv : Value.okWide Tryd.prog W .any base' 26 v) (h : DataW.Trod enc Tryd.prog W base sp held 26 v d p) :
    ∃ s n x : Int, v = .agg #[.int .i64 s, .int .u64 n, .int .u64 x] ∧ W64 n ∧ W64 x := by
  obtain ⟨cs, rfl, hsz⟩ := okWide_struct Tryd.underlying26 hv
  rw [cells_ent] at hsz
  obtain ⟨l⟩ := cs
  obtain ⟨fuel, hf⟩ := h
  have hf' : DataW.trod enc Tryd.prog W base sp held fuel 26 l = some (d, p) := hf
  obtain ⟨x0, h0, w0⟩ := int_field Tryd.underlying26 hf' (i := 0) (ty := 3) (off := 0) (q := .i64) (by kernel_rfl) under_int (by kernel_rfl)
  obtain ⟨x1, h1, w1⟩ := int_field Tryd.underlying26 hf' (i := 1) (ty := 22) (off := 1) (q := .u64) (by kernel_rfl) under_u64 (by kernel_rfl)
  obtain ⟨x2, h2, w2⟩ := int_field Tryd.underlying26 hf' (i := 2) (ty := 22) (off := 2) (q := .u64) (by kernel_rfl) under_u64 (by kernel_rfl)
  clear hf' hf hv
  match l, hsz with
  | [c0, c1, c2], _ =>
    simp at h0 h1 h2
    subst h0 h1 h2
    exact ⟨x0, x1, x2, rfl, of_wf_u64 w1, of_wf_u64 w2⟩
set_option maxRecDepth 100000 in
theorem open_u64 {H : Type} {enc : TypeId × Value → H} {W : World} {base base' : Nat} {sp : Nat → Bool} {held : Bool} {v : Value} {d : DataW H} {p : List MemPlace}
    (hv : Value.okWide Tryd.prog W .any base' 22 v) (h : DataW.Trod enc Tryd.prog W base sp held 22 v d p) : ∃ a : Int, v = .int .u64 a ∧ W64 a := by
  have hx := open_int Tryd.underlying22 hv h
  clear hv h
  obtain ⟨a, h1, _, _, hw⟩ := hx
  exact ⟨a, h1, of_wf_u64 hw⟩
end
end Hed
end Go.Proofs.YtmjdcpcndggflaaDoor

set_option linter.unusedVariables false
set_option linter.unusedSimpArgs false
namespace Go.Proofs.YtmjdcpcndggflaaDoor
namespace Qud
open Go.RowKit Go.Maps Arn Go.ChangeShapes Go.WideShapes Go.Deep Go.ChangeAt
theorem spot_of {P : Program} {w : World} {r : Reach} {base : Nat} {t e : TypeId} (ht : P.underlying t = some (.slice e)) {a : Addr} {len cap : Nat} (h : Cell.okWide P w r base t (.slice (some a) len cap)) : a.spot = none := by
  simp only [Cell.okWide, ht, Cell.ok] at h
  exact h.2.2.2.1
theorem spot_val {P : Program} {w : World} {r : Reach} {base : Nat} {t e : TypeId} (ht : P.underlying t = some (.slice e)) {a : Addr} {len cap : Nat} (h : Value.okWide P w r base t (.slice (some a) len cap)) : a.spot = none := by
  simp only [Value.okWide, ht] at h
  exact spot_of ht h
theorem add_at (g o k : Nat) : (⟨g, o, none⟩ : Addr).add k = ⟨g, o + k, none⟩ := by
  unfold Addr.add; split
  · rename_i e; simp [e]
  · rfl
section
variable {H : Type} {enc : TypeId × Value → H} {w : World} {base : Nat} {sp : Nat → Bool} {held : Bool}
theorem words_len {fuel : Nat} {cs : List Value} {x : DataW H × List MemPlace} (h : DataW.trod enc Tryd.prog w base sp held fuel 28 cs = some x) :
    ∃ ao wc ws, cs = [.slice ao ws.length wc] ∧ WordsAt w (.slice ao ws.length wc) ws ∧ (∀ u, u ∈ ws → W64 u) ∧ ws.length ≤ 9223372036854775807 := by
  rcases open_slice1 under_u64s (by kernel_rfl) h with ⟨rfl, rfl⟩ | ⟨a, len, cap, m, n, V, D, Pl, rfl, _, hl, hc, hm, rfl, hi⟩
  · exact ⟨none, 0, [], rfl, .inl ⟨rfl, rfl⟩, by simp, by simp⟩
  · have hlm : len ≤ m := by rw [hm]; split <;> omega
    have hz : ∀ i, i < len → ∃ z : Int, w.cell? (a.add i) = some (.int .u64 z) ∧ W64 z := fun i hil => by
      obtain ⟨h1, h2⟩ := hi i (by omega)
      obtain ⟨z, hz, _, hw⟩ := DataW.trod_int under_u64 h2
      simp at hz
      exact ⟨z, by rw [h1, hz], of_wf_u64 hw⟩
    obtain ⟨f, hf⟩ := choose_lt hz
    have hle : ((List.range len).map f).length = len := by simp
    refine ⟨some a, cap, (List.range len).map f, by rw [hle], .inr ⟨a, cap, rfl, fun j u hu => ?_⟩, fun u hu => ?_, ?_⟩
    · simp only [u64s, List.map_map, List.getElem?_map] at hu
      obtain ⟨i, hi1, hi2⟩ := Option.map_eq_some_iff.1 hu
      obtain ⟨hlt, e⟩ := List.getElem?_eq_some_iff.1 hi1
      rw [List.getElem_range] at e
      subst e
      rw [List.length_range] at hlt
      rw [(hf j hlt).1, ← hi2]; rfl
    · obtain ⟨i, hi1, rfl⟩ := List.mem_map.1 hu
      exact (hf i (List.mem_range.1 hi1)).2
    · rw [hle]; unfold maxLen at hc; omega
theorem rows_open {fuel : Nat} {a0 : Option Addr} {len cap : Nat} {x : DataW H × List MemPlace} (hsp : ∀ a, a0 = some a → a.spot = none) (h : DataW.trod enc Tryd.prog w base sp held fuel 39 [.slice a0 len cap] = some x) :
    ∃ R : List RowV, R.length = len ∧ RowsAt w (.slice a0 len cap) R ∧ (∀ y, y ∈ R → (∀ z, z ∈ y.2 → W64 z) ∧ y.2.length ≤ 9223372036854775807) ∧ R.length ≤ 9223372036854775807 := by
  rcases open_slice1 under_rows (by kernel_rfl) h with ⟨e, rfl⟩ | ⟨a, len', cap', m, n, V, D, Pl, e, _, hl, hc, hm, rfl, hi⟩
  · simp only [List.cons.injEq, Value.slice.injEq, and_true] at e
    obtain ⟨rfl, rfl, rfl⟩ := e
    exact ⟨[], rfl, ⟨.inl ⟨rfl, rfl⟩, by simp⟩, by simp, by simp⟩
  · simp only [List.cons.injEq, Value.slice.injEq, and_true] at e
    obtain ⟨rfl, rfl, rfl⟩ := e
    have hlm : len ≤ m := by rw [hm]; split <;> omega
    have hz : ∀ i, i < len → ∃ y : RowV, w.cell? (a.add i) = some y.1 ∧ WordsAt w y.1 y.2 ∧ (∀ z, z ∈ y.2 → W64 z) ∧ y.2.length ≤ 9223372036854775807 := fun i hil => by
      obtain ⟨h1, h2⟩ := hi i (by omega)
      obtain ⟨ao, wc, ws, e, hw, hW, hb⟩ := words_len h2
      simp only [List.cons.injEq, and_true] at e
      exact ⟨(.slice ao ws.length wc, ws), by rw [h1, e], hw, hW, hb⟩
    obtain ⟨f, hf⟩ := choose_lt hz
    obtain ⟨g, o, spot⟩ := a
    obtain rfl : spot = none := hsp _ rfl
    have hle : ((List.range len).map f).length = len := by simp
    refine ⟨(List.range len).map f, hle, ⟨.inr ⟨g, o, cap, by rw [hle], by omega, hc, fun j y hy => ?_⟩, fun y hy => ?_⟩, fun y hy => ?_, ?_⟩
    · rw [List.getElem?_map] at hy
      obtain ⟨i, hi1, rfl⟩ := Option.map_eq_some_iff.1 hy
      obtain ⟨hlt, e⟩ := List.getElem?_eq_some_iff.1 hi1
      rw [List.getElem_range] at e
      subst e
      rw [List.length_range] at hlt
      have := (hf j hlt).1
      rwa [add_at] at this
    · obtain ⟨i, hi1, rfl⟩ := List.mem_map.1 hy
      exact (hf i (List.mem_range.1 hi1)).2.1
    · obtain ⟨i, hi1, rfl⟩ := List.mem_map.1 hy
      obtain ⟨_, _, h3, h4⟩ := hf i (List.mem_range.1 hi1)
      exact ⟨h3, h4⟩
    · rw [hle]; unfold maxLen at hc; omega
end
end Qud
end Go.Proofs.YtmjdcpcndggflaaDoor

set_option linter.unusedVariables false
set_option linter.unusedSimpArgs false
namespace Go.Proofs.YtmjdcpcndggflaaDoor.headLists
open Go.ChangeShapes Go.WideShapes Go.ChangeAt Go.RowKit Go.Joins Hed

set_option maxRecDepth 100000 in
theorem contract (H : Type) (enc : TypeId × Value → H) (W : World) (base : Nat) (args : Array Value) (ds gs : List (DataW H)) (before : List MemPlace)
    (hval : ∀ (j : Nat) t v, Tryd.f5.params[j]? = some t → args[j]? = some v → Value.okWide Tryd.prog W .any base t v)
    (hW : DataW.Whole enc Tryd.prog Tryd.f5.params.toList Rows.headListsSpec.vars false W args.toList ds gs before) (hK : Ops.Kn W) :
    Calls Tryd.prog 5 args W fun e W' => ∃ v, e = .returned v ∧ Rows.headListsSpec.post enc Tryd.prog Tryd.f5 false true false false W args v W' := by
  have hW' := hW
  obtain ⟨p, q, hA0, hV, rfl, hfz, hnd⟩ := hW
  have hA : DataW.TrodAll enc Tryd.prog W 0 (fun _ => true) true Tryd.f5.params.toList args.toList ds p := hA0
  rw [Tryd.params5] at hA hval
  obtain ⟨v0, vs0, d0, ds0, p0, q0, ha0, rfl, rfl, h0, r0⟩ := trodAll_cons hA
  obtain ⟨v1, vs1, d1, ds1, p1, q1, ha1, rfl, rfl, h1, r1⟩ := trodAll_cons r0
  obtain ⟨rfl, rfl, rfl⟩ := trodAll_nil r1
  obtain rfl : args = #[v0, v1] := by cases args; simp_all
  obtain ⟨rfl, rfl⟩ := trodVars_none hV
  have hv0 := hval 0 39 v0 rfl rfl
  obtain ⟨a0, len, cap, rfl⟩ := okWide_slice Tryd.underlying39 hv0
  obtain ⟨c, rfl, hc⟩ := open_u64 (hval 1 22 v1 rfl rfl) h1
  clear hA0
  simp only [List.append_nil] at hW'
  have h0' := h0
  obtain ⟨n0, t0⟩ := h0'
  have t0' : DataW.trod enc Tryd.prog W 0 (fun _ => true) true n0 39 [.slice a0 len cap] = some (d0, p0) := t0
  obtain ⟨R, hRl, hR, hR64, hRm⟩ := Qud.rows_open (fun a e => by subst e; exact Qud.spot_val Tryd.underlying39 hv0) t0'
  have hw : Calls Tryd.prog 5 #[.slice a0 len cap, .int .u64 c] W fun e w' => e = .returned (.bool true) ∧ Frm.Turn [] W w' := by
    by_cases hl : 60 < len
    · exact lists_far a0 len cap c W hK hl
    · exact lists_any _ R c W hK hR hR64 hc (by omega)
  have hlt0 : ∀ x, x ∈ p0 → x.block < W.heap.size := fun x hx => by simpa using hW'.lt x (by simp [hx])
  have hlt1 : ∀ x, x ∈ p1 → x.block < W.heap.size := fun x hx => by simpa using hW'.lt x (by simp [hx])
  refine hw.mono fun e W' ⟨he, hT⟩ => ?_
  subst he
  have hb : Below W.heap.size W W' := hT.below (Nat.le_refl _) (by simp)
  refine ⟨_, rfl, _, _, _, [], p0 ++ (p1 ++ []), [], hW', ?_, ?_, rfl, hb.frame _, fun h => by cases h⟩
  · exact trodAll_cons_mk (shut_bool Tryd.underlying4 _) trodAll_mk0
  · exact (trodAll_cons_mk (Below.trod laidOut (by kernel_rfl) (of_decide_eq_true (by kernel_rfl)) h0 hb hlt0) (trodAll_cons_mk (Below.trod laidOut (by kernel_rfl) (of_decide_eq_true (by kernel_rfl)) h1 hb hlt1) trodAll_mk0))

theorem door_met (os : Os) : laidMetH Tryd.prog Rows.headListsRow.laid ((World.doorLaid Tryd.prog 123 os).forCall (fun _ _ => 0) ⟨#[], #[.slice none 0 0, .int .u64 0], []⟩).memory := by
  rw [MakeChecks.laidMetH_plain _ _ _ (by kernel_rfl)]
  exact laidMet_of_run' 8 (by kernel_rfl) (by kernel_rfl)
theorem reads (os : Os) {H : Type} (enc : TypeId × Value → H) : ∃ places, DataW.whole enc Tryd.prog ((World.doorLaid Tryd.prog 123 os).forCall (fun _ _ => 0) ⟨#[], #[.slice none 0 0, .int .u64 0], []⟩).memory Tryd.f5.params.toList Rows.headListsSpec.vars false (#[.slice none 0 0, .int .u64 0] : Array Value).toList 8 = some ([.nil, .lit (.int .u64 0)], [], places) :=
  ⟨[], by kernel_rfl⟩

set_option maxRecDepth 100000 in
theorem lifted (os : Os) (started : os.Started) (H : Type) (enc : TypeId × Value → H) (F : Stop.Interp) :
    ReturnsInHanded {} Tryd.checked os 5 .any ((OpenSpec.ofChange Rows.headListsSpec).preRow enc Tryd.prog Tryd.f5 Rows.headListsRow.domain false Rows.headListsRow.laid) (((OpenSpec.ofChange Rows.headListsSpec).at F).post enc Tryd.prog Tryd.f5 false true false false) := by
  obtain ⟨places, hx⟩ := reads os enc
  refine returnsInHanded_of_row (C := Tryd.checked) (s := OpenSpec.ofChange Rows.headListsSpec) Hed.own started (by kernel_rfl) Tryd.func5
    (witness_row_atRef (enc := enc) (C := Tryd.checked) false (World.doorLaid Tryd.prog 123 os) #[.slice none 0 0, .int .u64 0] rfl (by kernel_rfl) (by kernel_rfl) (by kernel_rfl)
      (OpenSpec.preRow_of_cond 8 hx rfl (fun k hk => by cases hk) (by kernel_rfl) (door_met os))) ?_
  intro W base args ds gs before hval hW _ _ _ hL hS _
  exact contract H enc W base args ds gs before hval hW (of_laid hL)

theorem said : Rows.HeadListsSaid :=
  OpenClaim.holds_of_cond 5 Tryd.f5 rfl rfl rfl rfl rfl rfl rfl ⟨rfl, rfl, rfl, rfl, rfl⟩ rfl rfl rfl rfl rfl (by kernel_rfl) Tryd.func5 (by kernel_rfl)
    (of_decide_eq_true (by kernel_rfl)) (by unfold Func.isWrapper; first | (rw [if_pos (by decide +kernel)]; kernel_rfl) | (rw [if_neg (by decide +kernel)]; exact ⟨rfl, rfl⟩))
    (fun os started H enc _ F => by rw [OpenClaim.pre_eq_preRow]; exact lifted os started H enc F)

theorem plain (f : FuncId) (fn : Func) (hf : Tryd.pinned.checked.prog.funcNamed "roundelay/roundelaylaw09.HeadLists" = some f) (hfn : Tryd.pinned.checked.prog.funcs[f]? = some fn) :
    true = Tryd.pinned.checked.prog.looks [] ∧ ∀ (j : Nat) t, fn.params[j]? = some t → Tryd.pinned.checked.prog.wantsStandIn t = false := by
  obtain rfl : f = 5 := Option.some.inj ((show Tryd.prog.funcNamed "roundelay/roundelaylaw09.HeadLists" = some 5 by kernel_rfl).symm.trans hf) |>.symm
  obtain rfl : fn = Tryd.f5 := (Option.some.inj (Tryd.func5.symm.trans hfn)).symm
  refine ⟨by kernel_rfl, fun j t ht => ?_⟩
  rw [Tryd.params5] at ht
  have hm := Array.mem_of_getElem? ht
  simp at hm
  rcases hm with rfl | rfl
  · exact (show Tryd.prog.wantsStandIn 39 = false by kernel_rfl)
  · exact (show Tryd.prog.wantsStandIn 22 = false by kernel_rfl)

theorem proved : Rows.HeadListsCardSaid :=
  Claim7.holds_tied_plain_at .later [] _ _ _ _ said (fun _ h => by cases h) (by kernel_rfl) (fun _ h => by cases h) headLists_row_tie rfl ⟨rfl, rfl⟩ (by kernel_rfl) rfl plain (by kernel_rfl)
#print axioms proved
end Go.Proofs.YtmjdcpcndggflaaDoor.headLists
