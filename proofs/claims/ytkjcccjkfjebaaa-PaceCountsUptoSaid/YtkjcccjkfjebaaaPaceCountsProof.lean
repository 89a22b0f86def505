/- Law PaceCounts, where what is handed over is of bulk at most 1048576: for every arena's words and every program a machine does as many steps as it has accesses. Beyond that bound the sum of all lengths can pass what an int holds. -/
import Derived.Test.YtkjcccjkfjebaaaPaceCountsGen
import Derived.Lib.SmallJoins
import Derived.Deep.Slices
import Derived.Deep.Fields
import Derived.ChangeSame
import Derived.WalkKit
import Derived.ProofKit
import Derived.OpenShut
import Derived.JoinedCond
set_option linter.unusedVariables false
set_option linter.unusedSimpArgs false
namespace Go.Proofs.Ytkjcccjkfjebaaa
namespace Blk4
theorem pos {H : Type} (d : DataW H) : 0 < Rows.uptoBulk d := by
  cases d with
  | lit l => cases l <;> simp [Rows.uptoBulk]
  | _ => simp [Rows.uptoBulk]
theorem count_le {H : Type} (l : List (DataW H)) : l.length ≤ Rows.uptoBulkAll l := by
  induction l with
  | nil => simp
  | cons d t ih =>
    have := pos d
    simp only [Rows.uptoBulkAll, List.length_cons]
    omega
theorem mem_le {H : Type} (l : List (DataW H)) (d : DataW H) (h : d ∈ l) : Rows.uptoBulk d ≤ Rows.uptoBulkAll l := by
  induction l with
  | nil => simp at h
  | cons x t ih =>
    simp only [Rows.uptoBulkAll]
    rcases List.mem_cons.1 h with rfl | h
    · omega
    · have := ih h
      omega
theorem slice_ge {H : Type} (e s : List (DataW H)) : Rows.uptoBulkAll e < Rows.uptoBulk (DataW.slice e s) := by
  simp only [Rows.uptoBulk]; omega
theorem slice_count {H : Type} (e s : List (DataW H)) : e.length < Rows.uptoBulk (DataW.slice e s) := by
  have := count_le e
  have := slice_ge e s
  omega
theorem four {H : Type} (a b c d : DataW H) : Rows.uptoBulk b + Rows.uptoBulk c + Rows.uptoBulk d < Rows.uptoBulk (DataW.agg [a, b, c, d]) := by
  simp only [Rows.uptoBulk, Rows.uptoBulkAll]; omega
theorem two {H : Type} {d0 d1 : DataW H} (h : Rows.uptoSmall H [d0, d1] = true) : Rows.uptoBulk d0 + Rows.uptoBulk d1 ≤ 1048576 := by
  have := of_decide_eq_true h
  simp only [Rows.uptoBulkAll] at this
  omega
end Blk4
namespace Pac
open Go.RowKit Go.Maps Arn Go.ChangeShapes Go.WideShapes Go.Deep Go.ChangeAt

def fieldAt (P : Program) (t : TypeId) (i : Nat) : Option (TypeId × Nat) :=
  match P.underlying t with
  | some (.struct fs) => (fs[i]?).map fun f => (f.type, f.offset)
  | _ => none
def isStruct (P : Program) (t : TypeId) : Bool := match P.underlying t with | some (.struct _) => true | _ => false
theorem struct_is {P : Program} {t : TypeId} (h : isStruct P t = true) : ∃ fs, P.underlying t = some (.struct fs) := by
  unfold isStruct at h; split at h
  · rename_i fs hu; exact ⟨fs, hu⟩
  · cases h
theorem field_is {P : Program} {t : TypeId} {fs : Array Field} (hu : P.underlying t = some (.struct fs)) {i ty off : Nat} (h : fieldAt P t i = some (ty, off)) : ∃ f, fs[i]? = some f ∧ f.type = ty ∧ f.offset = off := by
  unfold fieldAt at h
  rw [hu] at h
  simp only [Option.map_eq_some_iff, Prod.mk.injEq] at h
  obtain ⟨f, hf, h1, h2⟩ := h
  exact ⟨f, hf, h1, h2⟩
theorem spot_of {P : Program} {w : World} {r : Reach} {base : Nat} {t e : TypeId} (ht : P.underlying t = some (.slice e)) {a : Addr} {len cap : Nat} (h : Cell.okWide P w r base t (.slice (some a) len cap)) : a.spot = none := by
  simp only [Cell.okWide, ht, Cell.ok] at h
  exact h.2.2.2.1
theorem spot_val {P : Program} {w : World} {r : Reach} {base : Nat} {t e : TypeId} (ht : P.underlying t = some (.slice e)) {a : Addr} {len cap : Nat} (h : Value.okWide P w r base t (.slice (some a) len cap)) : a.spot = none := by
  simp only [Value.okWide, ht] at h
  exact spot_of ht h
theorem addr_is : isStruct Try.prog 34 = true := by kernel_rfl
theorem under_int : Try.prog.underlying 3 = some (.int .i64) := by kernel_rfl
section
variable {H : Type} {enc : TypeId × Value → H} {w : World} {base : Nat} {sp : Nat → Bool} {held : Bool}
/-- One field of a struct, an integer. -/
theorem int_field {t : TypeId} {fs : Array Field} {fuel : Nat} {cs : List Value} {x : DataW H × List MemPlace} (hu : Try.prog.underlying t = some (.struct fs)) (h : DataW.trod enc Try.prog w base sp held fuel t cs = some x)
    {i ty off : Nat} {q : IntKind} (hf : fieldAt Try.prog t i = some (ty, off)) (hq : Try.prog.underlying ty = some (.int q)) (hc : Try.prog.cellsOf ty = 1) :
    ∃ z : Int, cs[off]? = some (.int q z) ∧ (Lit.int q z).wf = true := by
  obtain ⟨xs, n, _, _, hlen, hxl, hfs⟩ := DataW.trod_struct hu h
  obtain ⟨f, hfi, e1, e2⟩ := field_is hu hf
  have h1 := hfs i f hfi
  rw [e1, e2, hc] at h1
  have hi : i < fs.size := (Array.getElem?_eq_some_iff.1 hfi).1
  obtain ⟨y, hy⟩ : ∃ y, xs[i]? = some y := ⟨_, List.getElem?_eq_getElem (by omega)⟩
  rw [hy] at h1
  obtain ⟨z, hz, _, hw⟩ := DataW.trod_int hq h1
  refine ⟨z, ?_, hw⟩
  have : ((cs.drop off).take 1)[0]? = some (.int q z) := by rw [hz]; rfl
  simpa using this
theorem words_bulk {fuel : Nat} {cs : List Value} {x : DataW H × List MemPlace} (h : DataW.trod enc Try.prog w base sp held fuel 42 cs = some x) :
    ∃ ao wc ws, cs = [.slice ao ws.length wc] ∧ WordsAt w (.slice ao ws.length wc) ws ∧ (∀ u, u ∈ ws → W64 u) ∧ ws.length + 1 ≤ Rows.uptoBulk x.1 := by
  rcases open_slice1 under_u64s (by kernel_rfl) h with ⟨rfl, rfl⟩ | ⟨a, len, cap, m, n, V, D, Pl, rfl, _, hl, _, hm, rfl, hi⟩
  · exact ⟨none, 0, [], rfl, .inl ⟨rfl, rfl⟩, by simp, by simp [Rows.uptoBulk]⟩
  · have hlm : len ≤ m := by rw [hm]; split <;> omega
    have hz : ∀ i, i < len → ∃ z : Int, w.cell? (a.add i) = some (.int .u64 z) ∧ W64 z := fun i hil => by
      obtain ⟨h1, h2⟩ := hi i (by omega)
      obtain ⟨z, hz, _, hw⟩ := DataW.trod_int under_u64 h2
      simp at hz
      exact ⟨z, by rw [h1, hz], of_wf_u64 hw⟩
    obtain ⟨f, hf⟩ := choose_lt hz
    have hle : ((List.range len).map f).length = len := by simp
    refine ⟨some a, cap, (List.range len).map f, by rw [hle], .inr ⟨a, cap, rfl, fun j u hu => ?_⟩, fun u hu => ?_, ?_⟩
    · simp only [u64s, List.map_map, List.getElem?_map] at hu
      obtain ⟨i, hi1, hi2⟩ := Option.map_eq_some_iff.1 hu
      obtain ⟨hlt, e⟩ := List.getElem?_eq_some_iff.1 hi1
      rw [List.getElem_range] at e
      subst e
      rw [List.length_range] at hlt
      rw [(hf j hlt).1, ← hi2]; rfl
    · obtain ⟨i, hi1, rfl⟩ := List.mem_map.1 hu
      exact (hf i (List.mem_range.1 hi1)).2
    · have := Blk4.slice_count ((List.range len).map D) ((List.range (m - len)).map fun j => D (len + j))
      rw [List.length_map, List.length_range] at this
      rw [hle]
      show len + 1 ≤ Rows.uptoBulk (DataW.slice _ _)
      omega
theorem heft_bulk (D : Nat → DataW H) (f : Nat → RowV) (l : List Nat) (h : ∀ i, i ∈ l → (f i).2.length + 1 ≤ Rows.uptoBulk (D i)) : heft (l.map f) ≤ 10 * Rows.uptoBulkAll (l.map D) := by
  induction l with
  | nil => simp [heft]
  | cons i t ih =>
    have h1 := h i (by simp)
    have h2 := ih (fun j hj => h j (by simp [hj]))
    simp only [List.map_cons, Rows.uptoBulkAll]
    have h3 : heft (f i :: t.map f) = 10 + (f i).2.length + heft (t.map f) := by simp [heft]
    omega
theorem rows_open {fuel : Nat} {a0 : Option Addr} {len cap : Nat} {x : DataW H × List MemPlace} (hsp : ∀ a, a0 = some a → a.spot = none) (h : DataW.trod enc Try.prog w base sp held fuel 84 [.slice a0 len cap] = some x) :
    ∃ R : List RowV, R.length = len ∧ RowsAt w (.slice a0 len cap) R ∧ (∀ y, y ∈ R → (∀ z, z ∈ y.2 → W64 z) ∧ y.2.length ≤ Rows.uptoBulk x.1) ∧ heft R ≤ 10 * Rows.uptoBulk x.1 := by
  rcases open_slice1 under_rows (by kernel_rfl) h with ⟨e, rfl⟩ | ⟨a, len', cap', m, n, V, D, Pl, e, _, hl, hc, hm, rfl, hi⟩
  · simp only [List.cons.injEq, Value.slice.injEq, and_true] at e
    obtain ⟨rfl, rfl, rfl⟩ := e
    exact ⟨[], rfl, ⟨.inl ⟨rfl, rfl⟩, by simp⟩, by simp, by simp [heft]⟩
  · simp only [List.cons.injEq, Value.slice.injEq, and_true] at e
    obtain ⟨rfl, rfl, rfl⟩ := e
    have hlm : len ≤ m := by rw [hm]; split <;> omega
    have hz : ∀ i, i < len → ∃ y : RowV, w.cell? (a.add i) = some y.1 ∧ WordsAt w y.1 y.2 ∧ (∀ z, z ∈ y.2 → W64 z) ∧ y.2.length + 1 ≤ Rows.uptoBulk (D i) := fun i hil => by
      obtain ⟨h1, h2⟩ := hi i (by omega)
      obtain ⟨ao, wc, ws, e, hw, hW, hb⟩ := words_bulk h2
      simp only [List.cons.injEq, and_true] at e
      exact ⟨(.slice ao ws.length wc, ws), by rw [h1, e], hw, hW, hb⟩
    obtain ⟨f, hf⟩ := choose_lt hz
    obtain ⟨g, o, spot⟩ := a
    obtain rfl : spot = none := hsp _ rfl
    have hb0 := Blk4.slice_ge ((List.range len).map D) ((List.range (m - len)).map fun j => D (len + j))
    have hle : ((List.range len).map f).length = len := by simp
    refine ⟨(List.range len).map f, hle, ⟨.inr ⟨g, o, cap, by rw [hle], by omega, hc, fun j y hy => ?_⟩, fun y hy => ?_⟩, fun y hy => ?_, ?_⟩
    · rw [List.getElem?_map] at hy
      obtain ⟨i, hi1, rfl⟩ := Option.map_eq_some_iff.1 hy
      obtain ⟨hlt, e⟩ := List.getElem?_eq_some_iff.1 hi1
      rw [List.getElem_range] at e
      subst e
      rw [List.length_range] at hlt
      have := (hf j hlt).1
      rwa [add_at] at this
    · obtain ⟨i, hi1, rfl⟩ := List.mem_map.1 hy
      exact (hf i (List.mem_range.1 hi1)).2.1
    · obtain ⟨i, hi1, rfl⟩ := List.mem_map.1 hy
      obtain ⟨_, _, h3, h4⟩ := hf i (List.mem_range.1 hi1)
      have h5 : Rows.uptoBulk (D i) ≤ Rows.uptoBulkAll ((List.range len).map D) := Blk4.mem_le _ _ (List.mem_map.2 ⟨i, hi1, rfl⟩)
      refine ⟨h3, ?_⟩
      show _ ≤ Rows.uptoBulk (DataW.slice _ _)
      omega
    · have := heft_bulk D f (List.range len) (fun i hi1 => (hf i (List.mem_range.1 hi1)).2.2.2)
      show _ ≤ 10 * Rows.uptoBulk (DataW.slice _ _)
      omega
theorem addrCells_range (f : Nat → Int × Int) (n : Nat) : ∀ j u, (addrCells ((List.range n).map f))[j]? = some u → ∃ i k, i < n ∧ j = i * 2 + k ∧ ([Value.int .u64 (f i).1, .int .i64 (f i).2] : List Value)[k]? = some u := by
  induction n with
  | zero => intro j u hu; simp [addrCells] at hu
  | succ n ih =>
    intro j u hu
    rw [List.range_succ, List.map_append] at hu
    have ha : addrCells ((List.range n).map f ++ [n].map f) = addrCells ((List.range n).map f) ++ [.int .u64 (f n).1, .int .i64 (f n).2] := by simp [addrCells]
    have hl : (addrCells ((List.range n).map f)).length = n * 2 := by rw [addrCells_length]; simp
    rw [ha] at hu
    by_cases hj : j < n * 2
    · rw [List.getElem?_append_left (by omega)] at hu
      obtain ⟨i, k, h1, h2, h3⟩ := ih j u hu
      exact ⟨i, k, by omega, h2, h3⟩
    · rw [List.getElem?_append_right (by omega), hl] at hu
      exact ⟨n, j - n * 2, by omega, by omega, hu⟩
theorem addrs_open {fuel : Nat} {a0 : Option Addr} {len cap : Nat} {x : DataW H × List MemPlace} (hsp : ∀ a, a0 = some a → a.spot = none) (h : DataW.trod enc Try.prog w base sp held fuel 82 [.slice a0 len cap] = some x) :
    ∃ L : List (Int × Int), L.length = len ∧ AddrsAt w (.slice a0 len cap) L ∧ (∀ y, y ∈ L → W64 y.1 ∧ (Lit.int .i64 y.2).wf = true) ∧ len ≤ Rows.uptoBulk x.1 := by
  rcases open_slice under_addrs h with ⟨e, rfl⟩ | ⟨a, len', cap', m, n, D, Pl, e, _, hl, hc, hm, rfl, hi⟩
  · simp only [List.cons.injEq, Value.slice.injEq, and_true] at e
    obtain ⟨rfl, rfl, rfl⟩ := e
    exact ⟨[], rfl, .inl ⟨rfl, rfl⟩, by simp, by simp⟩
  · simp only [List.cons.injEq, Value.slice.injEq, and_true] at e
    obtain ⟨rfl, rfl, rfl⟩ := e
    have hlm : len ≤ m := by rw [hm]; split <;> omega
    have hcell : Try.prog.cellsOf 34 = 2 := by kernel_rfl
    obtain ⟨g, o, spot⟩ := a
    obtain rfl : spot = none := hsp _ rfl
    rw [hcell] at hi
    obtain ⟨fs5, hu5⟩ := struct_is addr_is
    have hz : ∀ i, i < len → ∃ y : Int × Int, w.cell? ⟨g, o + (i * 2 + 0), none⟩ = some (.int .u64 y.1) ∧ w.cell? ⟨g, o + (i * 2 + 1), none⟩ = some (.int .i64 y.2) ∧ W64 y.1 ∧ (Lit.int .i64 y.2).wf = true := fun i hil => by
      obtain ⟨cs', h1, h2⟩ := hi i (by omega)
      obtain ⟨_, hlen, hat⟩ := World.cells?_some h1
      obtain ⟨z5, c5, w5⟩ := int_field hu5 h2 (i := 0) (ty := 29) (off := 0) (q := .u64) (by kernel_rfl) under_u64 (by kernel_rfl)
      obtain ⟨z6, c6, w6⟩ := int_field hu5 h2 (i := 1) (ty := 3) (off := 1) (q := .i64) (by kernel_rfl) under_int (by kernel_rfl)
      have a0 := hat 0 (by omega)
      have a1 := hat 1 (by omega)
      rw [add_at, add_at, c5, Nat.add_assoc] at a0
      rw [add_at, add_at, c6, Nat.add_assoc] at a1
      exact ⟨(z5, z6), a0, a1, of_wf_u64 w5, w6⟩
    obtain ⟨f, hf⟩ := choose_lt hz
    have hle : ((List.range len).map f).length = len := by simp
    have hb0 := Blk4.slice_count ((List.range len).map D) ((List.range (m - len)).map fun j => D (len + j))
    rw [List.length_map, List.length_range] at hb0
    refine ⟨(List.range len).map f, hle, .inr ⟨g, o, cap, by rw [hle], by omega, hc, fun j u hu => ?_⟩, fun y hy => ?_, ?_⟩
    · obtain ⟨i, k, h1, rfl, h3⟩ := addrCells_range f len j u hu
      obtain ⟨e0, e1, _⟩ := hf i h1
      match k, h3 with
      | 0, h3 => rw [e0]; exact h3
      | 1, h3 => rw [e1]; exact h3
    · obtain ⟨i, hi1, rfl⟩ := List.mem_map.1 hy
      exact (hf i (List.mem_range.1 hi1)).2.2
    · show _ ≤ Rows.uptoBulk (DataW.slice _ _)
      omega
end
end Pac
end Go.Proofs.Ytkjcccjkfjebaaa
namespace Go.Proofs.Ytkjcccjkfjebaaa.paceCounts
open Go.ChangeShapes Go.WideShapes Go.ChangeAt Go.RowKit
theorem laidOut : laidOutB Try.prog = true := by kernel_rfl
theorem own : ownKnob Try.prog.godebug = none := by kernel_rfl
set_option maxRecDepth 100000 in
theorem prog_cells {W : World} {base : Nat} {c0 c1 c2 c3 : Value} (h : Value.okWide Try.prog W .any base 86 (.agg #[c0, c1, c2, c3])) :
    Cell.okWide Try.prog W .any base 82 c1 ∧ Cell.okWide Try.prog W .any base 42 c2 ∧ Cell.okWide Try.prog W .any base 84 c3 := by
  simp only [Value.okWide, Try.underlying86] at h
  obtain ⟨cs, e, _, ts, hts, _, hi⟩ := h
  cases e
  have hct : Try.prog.cellTypes Try.prog.depth 86 = some [3, 82, 42, 84] := by kernel_rfl
  rw [hct] at hts
  obtain rfl := Option.some.inj hts
  obtain ⟨t1, g1, k1⟩ := hi 1 c1 rfl
  obtain ⟨t2, g2, k2⟩ := hi 2 c2 rfl
  obtain ⟨t3, g3, k3⟩ := hi 3 c3 rfl
  cases g1; cases g2; cases g3
  exact ⟨k1, k2, k3⟩

set_option maxRecDepth 100000 in
theorem contract (H : Type) (enc : TypeId × Value → H) (W : World) (base : Nat) (args : Array Value) (ds gs : List (DataW H)) (before : List MemPlace)
    (hval0 : ∀ (j : Nat) t v, Try.f7.params[j]? = some t → args[j]? = some v → Value.okWide Try.prog W .any base t v)
    (hW : DataW.Whole enc Try.prog Try.f7.params.toList Rows.paceCountsSpec.vars false W args.toList ds gs before) (hk : Rows.uptoSmall H (ds ++ gs) = true) :
    Calls Try.prog 7 args W fun e W' => ∃ v, e = .returned v ∧ Rows.paceCountsSpec.post enc Try.prog Try.f7 false true false false W args v W' := by
  have hval : ∀ (j : Nat) t v, Try.f7.params[j]? = some t → args[j]? = some v → Value.okWide Try.prog W .any base t v := hval0
  have hW' := hW
  obtain ⟨p, q, hA0, hV, rfl, hfz, hnd⟩ := hW
  have hA : DataW.TrodAll enc Try.prog W 0 (fun _ => true) true Try.f7.params.toList args.toList ds p := hA0
  rw [Try.params7] at hA hval
  obtain ⟨v0, v1, d0, d1, p0, p1, rfl, rfl, rfl, h0, h1⟩ := trodAll_two hA
  obtain ⟨rfl, rfl⟩ := trodVars_none hV
  have hv0 := hval 0 84 v0 rfl rfl
  obtain ⟨a0, len, cap, rfl⟩ := okWide_slice Try.underlying84 hv0
  clear hA0 hval0
  simp only [List.append_nil] at hW' hk
  have hlt : ∀ x ∈ p0 ++ p1, x.block < W.heap.size := fun x hx => by simpa using hW'.lt x hx
  have hk2 := Blk4.two hk
  have h0' := h0
  have h1' := h1
  obtain ⟨n0, t0⟩ := h0
  have t0' : DataW.trod enc Try.prog W 0 (fun _ => true) true n0 84 [.slice a0 len cap] = some (d0, p0) := t0
  obtain ⟨R, hRl, hR, hR64, hRh⟩ := Pac.rows_open (fun a e => by subst e; exact Pac.spot_val Try.underlying84 hv0) t0'
  have hv1 := hval 1 86 v1 rfl rfl
  have hv1' := hv1
  have hus := Try.underlying86
  obtain ⟨u0, u1, u2, u3, y0, y1, y2, y3, n, rfl, rfl, hp1, e0, e1, e2, e3⟩ := Go.Joins.open_agg4 hus (by kernel_rfl) (by kernel_rfl) hv1 h1
  obtain ⟨k1, k2, k3⟩ := prog_cells hv1'
  obtain ⟨z, hz, _, hzw⟩ := DataW.trod_int Pac.under_int e0
  simp only [List.cons.injEq, and_true] at hz
  subst hz
  obtain ⟨ax, nx, cx, hx⟩ := Go.Joins.slice_form Pac.under_addrs e1
  simp only [List.cons.injEq, and_true] at hx
  subst hx
  obtain ⟨LX, hXl, hX, hX64, hXb⟩ := Pac.addrs_open (fun a e => by subst e; exact Pac.spot_of Pac.under_addrs k1) e1
  obtain ⟨ah, ch, LH, hH, hHat, hH64, hHb⟩ := Pac.words_bulk e2
  simp only [List.cons.injEq, and_true] at hH
  subst hH
  obtain ⟨ap, np, cp, hq⟩ := Go.Joins.slice_form Pac.under_rows e3
  simp only [List.cons.injEq, and_true] at hq
  subst hq
  obtain ⟨Q, hQl, hQ, hQ64, hQh⟩ := Pac.rows_open (fun a e => by subst e; exact Pac.spot_of Pac.under_rows k3) e3
  subst hQl
  subst hXl
  have hRh' : Pac.heft R ≤ 10 * Rows.uptoBulk d0 := hRh
  have hR64' : ∀ x, x ∈ R → x.2.length ≤ Rows.uptoBulk d0 := fun x hx => (hR64 x hx).2
  have hb4 := Blk4.four y0.1 y1.1 y2.1 y3.1
  refine (Pac.counts_any (.slice a0 len cap) ap cp R Q z ax ah LX LH cx ch W hR hQ hX hHat (by omega) (fun x hx => ⟨(hR64 x hx).1, by have := hR64' x hx; omega⟩) (fun x hx => (hQ64 x hx).1) hX64 hH64).mono fun e W' ⟨he, ht⟩ => ?_
  subst he
  have hnx : Below W.heap.size W W' := ht.below (Nat.le_refl _) (by simp)
  refine ⟨_, rfl, _, _, _, [], p0 ++ p1, [], hW', ?_, ?_, rfl, hnx.frame _, fun h => by cases h⟩
  · exact trodAll_cons_mk (shut_bool Try.underlying4 _) trodAll_mk0
  · exact trodAll_mk2 (Below.trod laidOut (by kernel_rfl) (of_decide_eq_true (by kernel_rfl)) h0' hnx (fun x hx => hlt x (List.mem_append_left _ hx))) (Below.trod laidOut (by kernel_rfl) (of_decide_eq_true (by kernel_rfl)) h1' hnx (fun x hx => hlt x (List.mem_append_right _ hx)))

set_option maxRecDepth 100000 in
theorem lifted (os : Os) (started : os.Started) (H : Type) (enc : TypeId × Value → H) (F : Stop.Interp) :
    ReturnsInHanded {} Try.checked os 7 .any ((Rows.OpenSpec.upto Rows.paceCountsSpec).pre6 enc Try.prog Try.f7 Rows.paceCountsUptoRow.domain false) (((Rows.OpenSpec.upto Rows.paceCountsSpec).at F).post enc Try.prog Try.f7 false true false false) := by
  refine returnsInHanded_of_cond (C := Try.checked) (s := Rows.OpenSpec.upto Rows.paceCountsSpec) (k := Rows.uptoSmall) rfl own started (by kernel_rfl) Try.func7
    (OpenSpec.witness (enc := enc) (C := Try.checked) (s := Rows.OpenSpec.upto Rows.paceCountsSpec) (k := Rows.uptoSmall) rfl false ⟨#[], #[.slice none 0 0, .agg #[.int .i64 0, .slice none 0 0, .slice none 0 0, .slice none 0 0]], []⟩ 8 (by kernel_rfl) (by kernel_rfl) (by kernel_rfl)
      (x := ([.nil, .agg [.lit (.int .i64 0), .nil, .nil, .nil]], [], [])) (by kernel_rfl) rfl (by kernel_rfl)) ?_
  intro W base args ds gs before hval hW _ hk _
  exact contract H enc W base args ds gs before hval hW hk

theorem over : Rows.paceCountsUptoRow.holds Try.pinned (Rows.OpenSpec.upto Rows.paceCountsSpec) :=
  OpenClaim.holds_of_cond 7 Try.f7 rfl rfl rfl rfl rfl rfl rfl ⟨rfl, rfl, rfl, rfl, rfl⟩ rfl rfl rfl rfl rfl (by kernel_rfl) Try.func7 (by kernel_rfl)
    (of_decide_eq_true (by kernel_rfl)) (by unfold Func.isWrapper; first | (rw [if_pos (by decide +kernel)]; kernel_rfl) | (rw [if_neg (by decide +kernel)]; exact ⟨rfl, rfl⟩))
    (fun os started H enc _ F => lifted os started H enc F)

theorem proved : Rows.PaceCountsUptoSaid :=
  over
#print axioms proved
end Go.Proofs.Ytkjcccjkfjebaaa.paceCounts
