/- A list of operations of the arena's laws, opened. -/
/- The operations of an argument: no slice of words is longer than a slice can be. -/
import Derived.Test.YtgjgoflkbcmgnaaArenaOps
import Derived.Deep.Slices
import Derived.Deep.Fields
import Derived.ChangeSame
import Derived.ProofKit
import Derived.OpenShut
set_option linter.unusedVariables false
set_option linter.unusedSimpArgs false
namespace Go.Proofs.Ytgjgoflkbcmgnaa
namespace Arn
open Go.ChangeShapes Go.WideShapes Go.Deep Go.ChangeAt Go.RowKit

theorem under_ops : Try.prog.underlying 22 = some (.slice 57) := by kernel_rfl
def fieldAt (P : Program) (t : TypeId) (i : Nat) : Option (TypeId × Nat) :=
  match P.underlying t with
  | some (.struct fs) => (fs[i]?).map fun f => (f.type, f.offset)
  | _ => none
def isStruct (P : Program) (t : TypeId) : Bool := match P.underlying t with | some (.struct _) => true | _ => false
theorem struct_is {P : Program} {t : TypeId} (h : isStruct P t = true) : ∃ fs, P.underlying t = some (.struct fs) := by
  unfold isStruct at h; split at h
  · rename_i fs hu; exact ⟨fs, hu⟩
  · cases h
theorem field_is {P : Program} {t : TypeId} {fs : Array Field} (hu : P.underlying t = some (.struct fs)) {i ty off : Nat} (h : fieldAt P t i = some (ty, off)) : ∃ f, fs[i]? = some f ∧ f.type = ty ∧ f.offset = off := by
  unfold fieldAt at h
  rw [hu] at h
  simp only [Option.map_eq_some_iff, Prod.mk.injEq] at h
  obtain ⟨f, hf, h1, h2⟩ := h
  exact ⟨f, hf, h1, h2⟩
theorem cell_block_lt {w : World} {a : Addr} {v : Value} (h : w.cell? a = some v) : a.block < w.heap.size := by
  unfold World.cell? at h
  cases hh : w.heap[a.block]? with
  | none => simp [hh] at h
  | some o => exact (Array.getElem?_eq_some_iff.1 hh).1
section
variable {H : Type} {enc : TypeId × Value → H} {w : World} {base : Nat} {sp : Nat → Bool} {held : Bool}
/-- One field of a struct, an integer. -/
theorem int_field {t : TypeId} {fs : Array Field} {fuel : Nat} {cs : List Value} {x : DataW H × List MemPlace} (hu : Try.prog.underlying t = some (.struct fs)) (h : DataW.trod enc Try.prog w base sp held fuel t cs = some x)
    {i ty off : Nat} {q : IntKind} (hf : fieldAt Try.prog t i = some (ty, off)) (hq : Try.prog.underlying ty = some (.int q)) (hc : Try.prog.cellsOf ty = 1) :
    ∃ z : Int, cs[off]? = some (.int q z) ∧ (Lit.int q z).wf = true := by
  obtain ⟨xs, n, _, _, hlen, hxl, hfs⟩ := DataW.trod_struct hu h
  obtain ⟨f, hfi, e1, e2⟩ := field_is hu hf
  have h1 := hfs i f hfi
  rw [e1, e2, hc] at h1
  have hi : i < fs.size := (Array.getElem?_eq_some_iff.1 hfi).1
  obtain ⟨y, hy⟩ : ∃ y, xs[i]? = some y := ⟨_, List.getElem?_eq_getElem (by omega)⟩
  rw [hy] at h1
  obtain ⟨z, hz, _, hw⟩ := DataW.trod_int hq h1
  refine ⟨z, ?_, hw⟩
  have : ((cs.drop off).take 1)[0]? = some (.int q z) := by rw [hz]; rfl
  simpa using this
/-- One field of a struct, whatever it is. -/
theorem part_field {t : TypeId} {fs : Array Field} {fuel : Nat} {cs : List Value} {x : DataW H × List MemPlace} (hu : Try.prog.underlying t = some (.struct fs)) (h : DataW.trod enc Try.prog w base sp held fuel t cs = some x)
    {i ty off : Nat} (hf : fieldAt Try.prog t i = some (ty, off)) : ∃ n y, DataW.trod enc Try.prog w base sp held n ty ((cs.drop off).take (Try.prog.cellsOf ty)) = some y := by
  obtain ⟨xs, n, _, _, hlen, hxl, hfs⟩ := DataW.trod_struct hu h
  obtain ⟨f, hfi, e1, e2⟩ := field_is hu hf
  have h1 := hfs i f hfi
  have hi : i < fs.size := (Array.getElem?_eq_some_iff.1 hfi).1
  rw [e1, e2, List.getElem?_eq_getElem (by omega)] at h1
  exact ⟨n, _, h1⟩
theorem words_open {fuel : Nat} {cs : List Value} {x : DataW H × List MemPlace} (h : DataW.trod enc Try.prog w base sp held fuel 42 cs = some x) :
    ∃ ao wn wc ws, cs = [.slice ao wn wc] ∧ WordsAt w (.slice ao wn wc) ws ∧ (∀ u, u ∈ ws → W64 u) ∧ (ws ≠ [] → ∀ k, (Value.slice ao wn wc).ownBlock = some k → k < w.heap.size) := by
  rcases open_slice1 under_u64s (by kernel_rfl) h with ⟨rfl, _⟩ | ⟨a, len, cap, m, n, V, D, Pl, rfl, _, hl, _, hm, _, hi⟩
  · exact ⟨none, 0, 0, [], rfl, .inl ⟨rfl, rfl⟩, by simp, by simp⟩
  · have hlm : len ≤ m := by rw [hm]; split <;> omega
    have hz : ∀ i, i < len → ∃ z : Int, w.cell? (a.add i) = some (.int .u64 z) ∧ W64 z := fun i hil => by
      obtain ⟨h1, h2⟩ := hi i (by omega)
      obtain ⟨z, hz, _, hw⟩ := DataW.trod_int under_u64 h2
      simp at hz
      exact ⟨z, by rw [h1, hz], of_wf_u64 hw⟩
    obtain ⟨f, hf⟩ := choose_lt hz
    refine ⟨some a, len, cap, (List.range len).map f, rfl, .inr ⟨a, cap, by simp, fun j u hu => ?_⟩, fun u hu => ?_, fun hne k hk => ?_⟩
    · simp only [u64s, List.map_map, List.getElem?_map] at hu
      obtain ⟨i, hi1, hi2⟩ := Option.map_eq_some_iff.1 hu
      obtain ⟨hlt, e⟩ := List.getElem?_eq_some_iff.1 hi1
      rw [List.getElem_range] at e
      subst e
      rw [List.length_range] at hlt
      rw [(hf j hlt).1, ← hi2]; rfl
    · obtain ⟨i, hi1, rfl⟩ := List.mem_map.1 hu
      exact (hf i (List.mem_range.1 hi1)).2
    · have hlen : 0 < len := by
        cases len with
        | zero => simp at hne
        | succ n => omega
      simp [Value.ownBlock] at hk
      subst hk
      have h0 := (hf 0 hlen).1
      have hb : (a.add 0).block = a.block := by unfold Addr.add; split <;> rfl
      have := cell_block_lt h0
      rw [hb] at this
      exact this
theorem op_is : isStruct Try.prog 57 = true := by kernel_rfl
theorem addr_is : isStruct Try.prog 34 = true := by kernel_rfl
theorem under_int : Try.prog.underlying 3 = some (.int .i64) := by kernel_rfl
theorem op_open {fuel : Nat} {cs : List Value} {x : DataW H × List MemPlace} (h : DataW.trod enc Try.prog w base sp held fuel 57 cs = some x) :
    ∃ y : OpV, cs = y.cells ∧ y.Ok ∧ ∃ ws, WordsAt w (.slice y.ao y.wn y.wc) ws ∧ (∀ u, u ∈ ws → W64 u) ∧ (ws ≠ [] → ∀ k, (Value.slice y.ao y.wn y.wc).ownBlock = some k → k < w.heap.size) := by
  obtain ⟨fs, hu⟩ := struct_is op_is
  have hl : cs.length = 9 := by
    obtain ⟨_, _, _, _, hlen, _⟩ := DataW.trod_struct hu h
    rw [hlen]; kernel_rfl
  obtain ⟨z0, c0, w0⟩ := int_field hu h (i := 0) (ty := 3) (off := 0) (q := .i64) (by kernel_rfl) under_int (by kernel_rfl)
  obtain ⟨z1, c1, w1⟩ := int_field hu h (i := 1) (ty := 3) (off := 1) (q := .i64) (by kernel_rfl) under_int (by kernel_rfl)
  obtain ⟨z2, c2, w2⟩ := int_field hu h (i := 2) (ty := 3) (off := 2) (q := .i64) (by kernel_rfl) under_int (by kernel_rfl)
  obtain ⟨n3, y3, h3⟩ := part_field hu h (i := 3) (ty := 42) (off := 3) (by kernel_rfl)
  obtain ⟨ao, wn, wc, ws, e3, hw3, hW3, hb3⟩ := words_open h3
  obtain ⟨z4, c4, w4⟩ := int_field hu h (i := 4) (ty := 29) (off := 4) (q := .u64) (by kernel_rfl) under_u64 (by kernel_rfl)
  obtain ⟨n5, y5, h5⟩ := part_field hu h (i := 5) (ty := 34) (off := 5) (by kernel_rfl)
  obtain ⟨fs5, hu5⟩ := struct_is addr_is
  obtain ⟨z5, c5, w5⟩ := int_field hu5 h5 (i := 0) (ty := 29) (off := 0) (q := .u64) (by kernel_rfl) under_u64 (by kernel_rfl)
  obtain ⟨z6, c6, w6⟩ := int_field hu5 h5 (i := 1) (ty := 3) (off := 1) (q := .i64) (by kernel_rfl) under_int (by kernel_rfl)
  obtain ⟨z7, c7, w7⟩ := int_field hu h (i := 6) (ty := 29) (off := 7) (q := .u64) (by kernel_rfl) under_u64 (by kernel_rfl)
  obtain ⟨z8, c8, w8⟩ := int_field hu h (i := 7) (ty := 29) (off := 8) (q := .u64) (by kernel_rfl) under_u64 (by kernel_rfl)
  have hc1 : Try.prog.cellsOf 42 = 1 := by kernel_rfl
  have hc2 : Try.prog.cellsOf 34 = 2 := by kernel_rfl
  rw [hc1] at e3
  rw [hc2] at c5 c6
  clear h h3 h5 hu hu5
  match cs, hl with
  | [v0, v1, v2, v3, v4, v5, v6, v7, v8], _ =>
    simp at c0 c1 c2 e3 c4 c5 c6 c7 c8
    subst c0; subst c1; subst c2; subst e3; subst c4; subst c5; subst c6; subst c7; subst c8
    exact ⟨⟨z0, z1, z2, ao, wn, wc, z4, z5, z6, z7, z8⟩, rfl, ⟨w0, w1, w2, of_wf_u64 w4, of_wf_u64 w5, w6, of_wf_u64 w7, of_wf_u64 w8⟩, ws, hw3, hW3, hb3⟩
theorem ops_open {W : World} {a0 : Option Addr} {len cap : Nat} {d : DataW H} {p : List MemPlace} (h : DataW.Trod enc Try.prog W base sp held 22 (.slice a0 len cap) d p) :
    (0 < len → ∃ bl off, a0 = some ⟨bl, off, none⟩ ∧ OpsAt W bl off len) ∧ len ≤ maxLen := by
  obtain ⟨fuel, hf⟩ := h
  rcases open_slice under_ops hf with ⟨h0, _⟩ | ⟨a, len', cap', m, n, D, Pl, hcs, _, hl, hcm, hm, _, hi⟩
  · simp [Value.cells] at h0
    obtain ⟨_, rfl, _⟩ := h0
    exact ⟨fun h => by omega, by omega⟩
  · simp [Value.cells] at hcs
    obtain ⟨rfl, rfl, rfl⟩ := hcs
    refine ⟨fun hpos => ?_, by omega⟩
    have hlm : len ≤ m := by rw [hm]; split <;> omega
    have hcell : Try.prog.cellsOf 57 = 9 := by kernel_rfl
    rw [hcell] at hi
    have key : ∀ i, i < len → ∃ y : OpV, (∀ j u, y.cells[j]? = some u → W.cell? ((a.add (i * 9)).add j) = some u) ∧ y.Ok ∧ ∃ ws, WordsAt W (.slice y.ao y.wn y.wc) ws ∧ (∀ u, u ∈ ws → W64 u) ∧ (ws ≠ [] → ∀ k, (Value.slice y.ao y.wn y.wc).ownBlock = some k → k < W.heap.size) := fun i hil => by
      obtain ⟨cs', hc, ht⟩ := hi i (by omega)
      obtain ⟨y, rfl, h1, h2⟩ := op_open ht
      obtain ⟨_, hlen, hat⟩ := World.cells?_some hc
      exact ⟨y, fun j u hu => by rw [hat j (by have := (List.getElem?_eq_some_iff.1 hu).1; omega), hu], h1, h2⟩
    obtain ⟨y0, hy0, _⟩ := key 0 hpos
    have hs := World.cell?_spot (hy0 0 _ rfl)
    obtain ⟨bl, off, spot⟩ := a
    have hsp : spot = none := by simpa [Addr.add] using hs
    subst hsp
    have hadd : ∀ k, (⟨bl, off, none⟩ : Addr).add k = ⟨bl, off + k, none⟩ := fun k => by
      unfold Addr.add; split
      · rename_i e; simp [e]
      · rfl
    have hadd2 : ∀ o k, (⟨bl, o, none⟩ : Addr).add k = ⟨bl, o + k, none⟩ := fun o k => by
      unfold Addr.add; split
      · rename_i e; simp [e]
      · rfl
    refine ⟨bl, off, rfl, fun i hil => ?_⟩
    obtain ⟨y, hy, hok, hws⟩ := key i hil
    rw [hadd] at hy
    have g : ∀ j u, y.cells[j]? = some u → W.cell? ⟨bl, off + i * 9 + j, none⟩ = some u := fun j u hu => by
      have := hy j u hu
      rwa [hadd2] at this
    exact ⟨y, g 0 _ rfl, g 1 _ rfl, g 2 _ rfl, g 3 _ rfl, g 4 _ rfl, g 5 _ rfl, g 6 _ rfl, g 7 _ rfl, g 8 _ rfl, hok, hws⟩
end
end Arn
end Go.Proofs.Ytgjgoflkbcmgnaa

set_option linter.unusedVariables false
set_option linter.unusedSimpArgs false
namespace Go.Proofs.Ytgjgoflkbcmgnaa
namespace Arn
open Go.ChangeShapes Go.WideShapes Go.Deep Go.ChangeAt Go.RowKit
section
variable {H : Type} {enc : TypeId × Value → H} {w : World} {base : Nat} {sp : Nat → Bool} {held : Bool}
theorem words_len {fuel : Nat} {cs : List Value} {x : DataW H × List MemPlace} (h : DataW.trod enc Try.prog w base sp held fuel 42 cs = some x) :
    ∃ ao wn wc, cs = [.slice ao wn wc] ∧ wn ≤ maxLen := by
  rcases open_slice1 under_u64s (by kernel_rfl) h with ⟨rfl, _⟩ | ⟨a, len, cap, m, n, V, D, Pl, rfl, _, hl, hcm, hm, _, hi⟩
  · exact ⟨none, 0, 0, rfl, Nat.zero_le _⟩
  · exact ⟨some a, len, cap, rfl, by omega⟩
theorem wn_open {W : World} {a0 : Option Addr} {len cap : Nat} {d : DataW H} {p : List MemPlace} (h : DataW.Trod enc Try.prog W base sp held 22 (.slice a0 len cap) d p) (bl off : Nat) (e : a0 = some ⟨bl, off, none⟩)
    (i : Nat) (hil : i < len) (x : OpV) (hx : OpAt W bl (off + i * 9) x) : x.wn ≤ maxLen := by
  subst e
  obtain ⟨fuel, hf⟩ := h
  rcases open_slice under_ops hf with ⟨h0, _⟩ | ⟨a, len', cap', m, n, D, Pl, hcs, _, hl, hcm, hm, _, hi⟩
  · simp [Value.cells] at h0
  · simp [Value.cells] at hcs
    obtain ⟨rfl, rfl, rfl⟩ := hcs
    have hlm : len ≤ m := by rw [hm]; split <;> omega
    have hcell : Try.prog.cellsOf 57 = 9 := by kernel_rfl
    rw [hcell] at hi
    obtain ⟨cs', hc, ht⟩ := hi i (by omega)
    obtain ⟨fs, hu⟩ := struct_is op_is
    have hl9 : cs'.length = 9 := by
      obtain ⟨_, _, _, _, hlen, _⟩ := DataW.trod_struct hu ht
      rw [hlen]; kernel_rfl
    obtain ⟨n3, y3, h3⟩ := part_field hu ht (i := 3) (ty := 42) (off := 3) (by kernel_rfl)
    obtain ⟨ao, wn, wc, e3, hw⟩ := words_len h3
    have hc1 : Try.prog.cellsOf 42 = 1 := by kernel_rfl
    rw [hc1] at e3
    obtain ⟨_, hlen, hat⟩ := World.cells?_some hc
    have h4 := hat 3 (by omega)
    have h5 : cs'[3]? = some (.slice ao wn wc) := by
      have : ((cs'.drop 3).take 1)[0]? = some (.slice ao wn wc) := by rw [e3]; rfl
      simpa using this
    rw [h5] at h4
    have hadd : ∀ o k, (⟨bl, o, none⟩ : Addr).add k = ⟨bl, o + k, none⟩ := fun o k => by
      unfold Addr.add; split
      · rename_i e; simp [e]
      · rfl
    rw [hadd, hadd, hx.c3] at h4
    simp only [Option.some.injEq, Value.slice.injEq] at h4
    omega
end
end Arn
end Go.Proofs.Ytgjgoflkbcmgnaa
