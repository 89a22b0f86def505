/- Lists of numbers as arguments. -/
/- A case of HoldPlays as an argument of bounded bulk. -/
import Derived.Test.YtpajafecodkndaaGreatHoldLaw
import Derived.Deep.Slices
import Derived.WalkKit
import Derived.ProofKit
import Derived.OpenShut
import Derived.Test.YtpajafecodkndaaGreatHoldGreat
import Derived.Lib.SmallJoins
import Derived.Deep.Fields
import Derived.ChangeSame
import Derived.JoinedCond
set_option linter.unusedVariables false
set_option linter.unusedSimpArgs false
namespace Go.Proofs.YtpajafecodkndaaGreat
namespace Hld
open Go.ChangeShapes Go.WideShapes Go.Deep Go.ChangeAt Go.RowKit Arn
section
variable {H : Type} {enc : TypeId × Value → H} {w : World} {base : Nat} {sp : Nat → Bool} {held : Bool}
theorem under_u8s : Tryz.prog.underlying 24 = some (.slice 5) := by kernel_rfl
theorem under_u8 : Tryz.prog.underlying 5 = some (.int .u8) := by kernel_rfl
theorem under_w64s : Tryz.prog.underlying 25 = some (.slice 31) := by kernel_rfl
theorem under_w64 : Tryz.prog.underlying 31 = some (.int .u64) := by kernel_rfl
theorem of_wf_8 {k : Int} (h : (Lit.int .u8 k).wf = true) : 0 ≤ k ∧ k < 256 := by
  simp [Lit.wf, IntKind.min, IntKind.max, IntKind.bits, IntKind.signed] at h
  exact ⟨h.1, by omega⟩
theorem of_wf_64 {k : Int} (h : (Lit.int .u64 k).wf = true) : W64 k := by
  simp [Lit.wf, IntKind.min, IntKind.max, IntKind.bits, IntKind.signed] at h
  exact ⟨h.1, by omega⟩
theorem choose_lt {P : Nat → Int → Prop} {n : Nat} (h : ∀ i, i < n → ∃ z, P i z) : ∃ f : Nat → Int, ∀ i, i < n → P i (f i) :=
  ⟨fun i => if hi : i < n then (h i hi).choose else 0, fun i hi => by simp only [hi, dif_pos]; exact (h i hi).choose_spec⟩
theorem kind_open {K : IntKind} {ts te : TypeId} {Q : Int → Prop} (hs : Tryz.prog.underlying ts = some (.slice te)) (he : Tryz.prog.underlying te = some (.int K)) (hz : Tryz.prog.cellsOf te = 1) (hQ : ∀ k : Int, (Lit.int K k).wf = true → Q k)
    {ao : Option Addr} {n c : Nat} {d : DataW H} {p : List MemPlace} (h : DataW.Trod enc Tryz.prog w base sp held ts (.slice ao n c) d p) :
    ∃ z, KindC K w (.slice ao n c) z n ∧ (∀ i, i < n → Q (z i)) ∧ n ≤ maxLen := by
  obtain ⟨fuel, hf⟩ := h
  rcases open_slice1 hs hz hf with ⟨e, _⟩ | ⟨a, len, cap, m, n', V, D, Pl, e, _, hl, _, hm, _, hi⟩
  · simp [Value.cells] at e
    obtain ⟨rfl, rfl, rfl⟩ := e
    exact ⟨fun _ => 0, ⟨⟨_, _, rfl⟩, .inl rfl⟩, fun i hi => by omega, by simp⟩
  · simp [Value.cells] at e
    obtain ⟨rfl, rfl, rfl⟩ := e
    have hlm : n ≤ m := by rw [hm]; split <;> omega
    have hz : ∀ i, i < n → ∃ z : Int, w.cell? (a.add i) = some (.int K z) ∧ Q z := fun i hil => by
      obtain ⟨h1, h2⟩ := hi i (by omega)
      obtain ⟨z, hz, _, hw⟩ := DataW.trod_int he h2
      simp at hz
      exact ⟨z, by rw [h1, hz], hQ _ hw⟩
    obtain ⟨f, hf⟩ := choose_lt hz
    exact ⟨f, ⟨⟨_, _, rfl⟩, .inr ⟨a, c, rfl, fun i hi => (hf i hi).1⟩⟩, fun i hi => (hf i hi).2, by omega⟩
theorem info_u8' : Tryz.prog.cellsOf 5 = 1 := by kernel_rfl
theorem info_u64' : Tryz.prog.cellsOf 31 = 1 := by kernel_rfl
end
end Hld
end Go.Proofs.YtpajafecodkndaaGreat

set_option linter.unusedVariables false
set_option linter.unusedSimpArgs false
namespace Go.Proofs.YtpajafecodkndaaGreat
namespace Hld
open Go.RowKit Go.Maps Arn Pac Go.ChangeShapes Go.WideShapes Go.Deep Go.ChangeAt
theorem bk_pos {H : Type} (d : DataW H) : 0 < Rows.uptoBulk d := by
  cases d with
  | lit l => cases l <;> simp [Rows.uptoBulk]
  | _ => simp [Rows.uptoBulk]
theorem bk_count {H : Type} (l : List (DataW H)) : l.length ≤ Rows.uptoBulkAll l := by
  induction l with
  | nil => simp
  | cons d t ih =>
    have := bk_pos d
    simp only [Rows.uptoBulkAll, List.length_cons]
    omega
theorem bk_slice {H : Type} (e s : List (DataW H)) : Rows.uptoBulkAll e < Rows.uptoBulk (DataW.slice e s) := by
  simp only [Rows.uptoBulk]; omega
theorem bk_many {H : Type} (e s : List (DataW H)) : e.length < Rows.uptoBulk (DataW.slice e s) := by
  have := bk_count e
  have := bk_slice e s
  omega
theorem bk_four {H : Type} (a b c d : DataW H) : Rows.uptoBulk a + Rows.uptoBulk b + Rows.uptoBulk c + Rows.uptoBulk d < Rows.uptoBulk (DataW.agg [a, b, c, d]) := by
  simp only [Rows.uptoBulk, Rows.uptoBulkAll]; omega
theorem bk_one {H : Type} {d0 : DataW H} (h : Rows.uptoSmall H [d0] = true) : Rows.uptoBulk d0 ≤ 1048576 := by
  have := of_decide_eq_true h
  simp only [Rows.uptoBulkAll] at this
  omega
theorem bk_snoc {H : Type} (l : List (DataW H)) (d : DataW H) : Rows.uptoBulkAll (l ++ [d]) = Rows.uptoBulkAll l + Rows.uptoBulk d := by
  induction l with
  | nil => simp only [List.nil_append, Rows.uptoBulkAll]; omega
  | cons x t ih => simp only [List.cons_append, Rows.uptoBulkAll, ih]; omega
theorem choose_any {α : Type} (z0 : α) {P : Nat → α → Prop} {n : Nat} (h : ∀ i, i < n → ∃ z, P i z) : ∃ f : Nat → α, ∀ i, i < n → P i (f i) := by
  classical
  exact ⟨fun i => if hi : i < n then (h i hi).choose else z0, fun i hi => by simp only [hi, dif_pos]; exact (h i hi).choose_spec⟩
def fieldOf (P : Program) (t : TypeId) (i : Nat) : Option (TypeId × Nat) :=
  match P.underlying t with
  | some (.struct fs) => (fs[i]?).map fun f => (f.type, f.offset)
  | _ => none
def aStruct (P : Program) (t : TypeId) : Bool := match P.underlying t with | some (.struct _) => true | _ => false
theorem a_struct {P : Program} {t : TypeId} (h : aStruct P t = true) : ∃ fs, P.underlying t = some (.struct fs) := by
  unfold aStruct at h; split at h
  · rename_i fs hu; exact ⟨fs, hu⟩
  · cases h
theorem field_of {P : Program} {t : TypeId} {fs : Array Field} (hu : P.underlying t = some (.struct fs)) {i ty off : Nat} (h : fieldOf P t i = some (ty, off)) : ∃ f, fs[i]? = some f ∧ f.type = ty ∧ f.offset = off := by
  unfold fieldOf at h
  rw [hu] at h
  simp only [Option.map_eq_some_iff, Prod.mk.injEq] at h
  obtain ⟨f, hf, h1, h2⟩ := h
  exact ⟨f, hf, h1, h2⟩
theorem spot_none {P : Program} {w : World} {r : Reach} {base : Nat} {t e : TypeId} (ht : P.underlying t = some (.slice e)) {a : Addr} {len cap : Nat} (h : Cell.okWide P w r base t (.slice (some a) len cap)) : a.spot = none := by
  simp only [Cell.okWide, ht, Cell.ok] at h
  exact h.2.2.2.1
theorem addr_add (g o k : Nat) : (⟨g, o, none⟩ : Addr).add k = ⟨g, o + k, none⟩ := by
  unfold Addr.add; split
  · rename_i e; simp [e]
  · simp
theorem under_i : Tryz.prog.underlying 3 = some (.int .i64) := by kernel_rfl
theorem under_u : Tryz.prog.underlying 31 = some (.int .u64) := by kernel_rfl
theorem under_ll : Tryz.prog.underlying 22 = some (.slice 25) := by kernel_rfl
theorem under_jl : Tryz.prog.underlying 23 = some (.slice 50) := by kernel_rfl
theorem job_is : aStruct Tryz.prog 50 = true := by kernel_rfl
section
variable {H : Type} {enc : TypeId × Value → H} {w : World} {base : Nat} {sp : Nat → Bool} {held : Bool}
theorem one_field {t : TypeId} {fs : Array Field} {fuel : Nat} {cs : List Value} {x : DataW H × List MemPlace} (hu : Tryz.prog.underlying t = some (.struct fs)) (h : DataW.trod enc Tryz.prog w base sp held fuel t cs = some x)
    {i ty off : Nat} {q : IntKind} (hf : fieldOf Tryz.prog t i = some (ty, off)) (hq : Tryz.prog.underlying ty = some (.int q)) (hc : Tryz.prog.cellsOf ty = 1) :
    ∃ z : Int, cs[off]? = some (.int q z) ∧ (Lit.int q z).wf = true := by
  obtain ⟨xs, n, _, _, hlen, hxl, hfs⟩ := DataW.trod_struct hu h
  obtain ⟨f, hfi, e1, e2⟩ := field_of hu hf
  have h1 := hfs i f hfi
  rw [e1, e2, hc] at h1
  have hi : i < fs.size := (Array.getElem?_eq_some_iff.1 hfi).1
  obtain ⟨y, hy⟩ : ∃ y, xs[i]? = some y := ⟨_, List.getElem?_eq_getElem (by omega)⟩
  rw [hy] at h1
  obtain ⟨z, hz, _, hw⟩ := DataW.trod_int hq h1
  refine ⟨z, ?_, hw⟩
  have : ((cs.drop off).take 1)[0]? = some (.int q z) := by rw [hz]; rfl
  simpa using this
theorem word_list {fuel : Nat} {cs : List Value} {x : DataW H × List MemPlace} (h : DataW.trod enc Tryz.prog w base sp held fuel 25 cs = some x) :
    ∃ v ws, cs = [v] ∧ WordsAt w v ws ∧ (∀ u, u ∈ ws → W64 u) ∧ ws.length + 1 ≤ Rows.uptoBulk x.1 := by
  rcases open_slice1 under_w64s (by kernel_rfl) h with ⟨rfl, rfl⟩ | ⟨a, len, cap, m, n, V, D, Pl, rfl, _, hl, _, hm, rfl, hi⟩
  · exact ⟨_, [], rfl, .inl ⟨rfl, rfl⟩, by simp, by simp [Rows.uptoBulk]⟩
  · have hlm : len ≤ m := by rw [hm]; split <;> omega
    have hz : ∀ i, i < len → ∃ z : Int, w.cell? (a.add i) = some (.int .u64 z) ∧ W64 z := fun i hil => by
      obtain ⟨h1, h2⟩ := hi i (by omega)
      obtain ⟨z, hz, _, hw⟩ := DataW.trod_int under_w64 h2
      simp at hz
      exact ⟨z, by rw [h1, hz], of_wf_64 hw⟩
    obtain ⟨f, hf⟩ := choose_any (0 : Int) hz
    have hle : ((List.range len).map f).length = len := by simp
    refine ⟨.slice (some a) len cap, (List.range len).map f, rfl, .inr ⟨a, cap, by rw [hle], fun j u hu => ?_⟩, fun u hu => ?_, ?_⟩
    · simp only [u64s, List.map_map, List.getElem?_map] at hu
      obtain ⟨i, hi1, hi2⟩ := Option.map_eq_some_iff.1 hu
      obtain ⟨hlt, e⟩ := List.getElem?_eq_some_iff.1 hi1
      rw [List.getElem_range] at e
      subst e
      rw [List.length_range] at hlt
      rw [(hf j hlt).1, ← hi2]; rfl
    · obtain ⟨i, hi1, rfl⟩ := List.mem_map.1 hu
      exact (hf i (List.mem_range.1 hi1)).2
    · have := bk_many ((List.range len).map D) ((List.range (m - len)).map fun j => D (len + j))
      rw [List.length_map, List.length_range] at this
      rw [hle]
      show len + 1 ≤ Rows.uptoBulk (DataW.slice _ _)
      omega
theorem sum_bulk (D : Nat → DataW H) (l : Nat → List Int) : ∀ n, (∀ i, i < n → (l i).length + 1 ≤ Rows.uptoBulk (D i)) → sumL l n ≤ 10 * Rows.uptoBulkAll ((List.range n).map D)
  | 0, _ => Nat.zero_le _
  | n + 1, h => by
    have h1 := sum_bulk D l n (fun i hi => h i (by omega))
    have h2 := h n (by omega)
    rw [List.range_succ, List.map_append, List.map_cons, List.map_nil, bk_snoc]
    show sumL l n + (10 + (l n).length) ≤ _
    omega
theorem lst_open {fuel : Nat} {a0 : Option Addr} {len cap : Nat} {x : DataW H × List MemPlace} (h : DataW.trod enc Tryz.prog w base sp held fuel 22 [.slice a0 len cap] = some x) :
    ∃ u l, LstC w (.slice a0 len cap) u l len ∧ (∀ i, i < len → ∀ z, z ∈ l i → W64 z) ∧ sumL l len ≤ 10 * Rows.uptoBulk x.1 := by
  rcases open_slice1 under_ll (by kernel_rfl) h with ⟨e, rfl⟩ | ⟨a, len', cap', m, n, V, D, Pl, e, _, hl, hc, hm, rfl, hi⟩
  · simp only [List.cons.injEq, Value.slice.injEq, and_true] at e
    obtain ⟨rfl, rfl, rfl⟩ := e
    exact ⟨fun _ => .slice none 0 0, fun _ => [], ⟨⟨_, _, rfl⟩, .inl rfl, fun i hi => by omega⟩, fun i hi => by omega, Nat.zero_le _⟩
  · simp only [List.cons.injEq, Value.slice.injEq, and_true] at e
    obtain ⟨rfl, rfl, rfl⟩ := e
    have hlm : len ≤ m := by rw [hm]; split <;> omega
    have hz : ∀ i, i < len → ∃ y : Value × List Int, w.cell? (a.add i) = some y.1 ∧ WordsAt w y.1 y.2 ∧ (∀ z, z ∈ y.2 → W64 z) ∧ y.2.length + 1 ≤ Rows.uptoBulk (D i) := fun i hil => by
      obtain ⟨h1, h2⟩ := hi i (by omega)
      obtain ⟨v, ws, e, hw, hW, hb⟩ := word_list h2
      simp only [List.cons.injEq, and_true] at e
      exact ⟨(v, ws), by rw [h1, e], hw, hW, hb⟩
    obtain ⟨f, hf⟩ := choose_any ((.slice none 0 0, []) : Value × List Int) hz
    refine ⟨fun i => (f i).1, fun i => (f i).2, ⟨⟨_, _, rfl⟩, .inr ⟨a, cap, rfl, fun i hi => (hf i hi).1⟩, fun i hi => (hf i hi).2.1⟩, fun i hi => (hf i hi).2.2.1, ?_⟩
    have h1 := sum_bulk D (fun i => (f i).2) len (fun i hi => (hf i hi).2.2.2)
    have h2 := bk_slice ((List.range len).map D) ((List.range (m - len)).map fun j => D (len + j))
    show _ ≤ 10 * Rows.uptoBulk (DataW.slice _ _)
    omega
theorem job_open {fuel : Nat} {a0 : Option Addr} {len cap : Nat} {x : DataW H × List MemPlace} (hsp : ∀ a, a0 = some a → a.spot = none) (h : DataW.trod enc Tryz.prog w base sp held fuel 23 [.slice a0 len cap] = some x) :
    ∃ z, JobC w (.slice a0 len cap) z len ∧ (∀ i, i < len → W64 (z i 4)) ∧ len ≤ Rows.uptoBulk x.1 := by
  rcases open_slice under_jl h with ⟨e, rfl⟩ | ⟨a, len', cap', m, n, D, Pl, e, _, hl, hc, hm, rfl, hi⟩
  · simp only [List.cons.injEq, Value.slice.injEq, and_true] at e
    obtain ⟨rfl, rfl, rfl⟩ := e
    exact ⟨fun _ _ => 0, ⟨⟨_, _, rfl⟩, .inl rfl⟩, fun i hi => by omega, Nat.zero_le _⟩
  · simp only [List.cons.injEq, Value.slice.injEq, and_true] at e
    obtain ⟨rfl, rfl, rfl⟩ := e
    have hlm : len ≤ m := by rw [hm]; split <;> omega
    have hcell : Tryz.prog.cellsOf 50 = 5 := by kernel_rfl
    obtain ⟨g, o, spot⟩ := a
    obtain rfl : spot = none := hsp _ rfl
    rw [hcell] at hi
    obtain ⟨fs5, hu5⟩ := a_struct job_is
    have hz : ∀ i, i < len → ∃ y : Nat → Int, w.rangeAt g (o + i * 5) [.int .i64 (y 0), .int .i64 (y 1), .int .i64 (y 2), .int .i64 (y 3), .int .u64 (y 4)] ∧ W64 (y 4) := fun i hil => by
      obtain ⟨cs', h1, h2⟩ := hi i (by omega)
      obtain ⟨_, hlen, hat⟩ := World.cells?_some h1
      obtain ⟨z0, c0, w0⟩ := one_field hu5 h2 (i := 0) (ty := 3) (off := 0) (q := .i64) (by kernel_rfl) under_i (by kernel_rfl)
      obtain ⟨z1, c1, w1⟩ := one_field hu5 h2 (i := 1) (ty := 3) (off := 1) (q := .i64) (by kernel_rfl) under_i (by kernel_rfl)
      obtain ⟨z2, c2, w2⟩ := one_field hu5 h2 (i := 2) (ty := 3) (off := 2) (q := .i64) (by kernel_rfl) under_i (by kernel_rfl)
      obtain ⟨z3, c3, w3⟩ := one_field hu5 h2 (i := 3) (ty := 3) (off := 3) (q := .i64) (by kernel_rfl) under_i (by kernel_rfl)
      obtain ⟨z4, c4, w4⟩ := one_field hu5 h2 (i := 4) (ty := 31) (off := 4) (q := .u64) (by kernel_rfl) under_u (by kernel_rfl)
      refine ⟨fun k => if k = 0 then z0 else if k = 1 then z1 else if k = 2 then z2 else if k = 3 then z3 else z4, fun j u hu => ?_, of_wf_64 w4⟩
      have hj : j < 5 := by have := (List.getElem?_eq_some_iff.1 hu).1; simpa using this
      have ha := hat j hj
      rw [addr_add, addr_add] at ha
      rw [ha, ← hu]
      have : j = 0 ∨ j = 1 ∨ j = 2 ∨ j = 3 ∨ j = 4 := by omega
      rcases this with rfl | rfl | rfl | rfl | rfl
      · rw [c0]; rfl
      · rw [c1]; rfl
      · rw [c2]; rfl
      · rw [c3]; rfl
      · rw [c4]; rfl
    obtain ⟨f, hf⟩ := choose_any (fun _ => (0 : Int)) hz
    have hb0 := bk_many ((List.range len).map D) ((List.range (m - len)).map fun j => D (len + j))
    rw [List.length_map, List.length_range] at hb0
    refine ⟨f, ⟨⟨_, _, rfl⟩, .inr ⟨g, o, cap, rfl, fun i hi => (hf i hi).1⟩⟩, fun i hi => (hf i hi).2, ?_⟩
    show _ ≤ Rows.uptoBulk (DataW.slice _ _)
    omega
theorem kind_bulk {K : IntKind} {ts te : TypeId} {Q : Int → Prop} (hs : Tryz.prog.underlying ts = some (.slice te)) (he : Tryz.prog.underlying te = some (.int K)) (hz : Tryz.prog.cellsOf te = 1) (hQ : ∀ k : Int, (Lit.int K k).wf = true → Q k)
    {fuel : Nat} {ao : Option Addr} {n c : Nat} {x : DataW H × List MemPlace} (h : DataW.trod enc Tryz.prog w base sp held fuel ts [.slice ao n c] = some x) :
    ∃ z, KindC K w (.slice ao n c) z n ∧ (∀ i, i < n → Q (z i)) ∧ n ≤ Rows.uptoBulk x.1 := by
  rcases open_slice1 hs hz h with ⟨e, rfl⟩ | ⟨a, len, cap, m, n', V, D, Pl, e, _, hl, _, hm, rfl, hi⟩
  · simp at e
    obtain ⟨rfl, rfl, rfl⟩ := e
    exact ⟨fun _ => 0, ⟨⟨_, _, rfl⟩, .inl rfl⟩, fun i hi => by omega, by simp⟩
  · simp at e
    obtain ⟨rfl, rfl, rfl⟩ := e
    have hlm : n ≤ m := by rw [hm]; split <;> omega
    have hz : ∀ i, i < n → ∃ z : Int, w.cell? (a.add i) = some (.int K z) ∧ Q z := fun i hil => by
      obtain ⟨h1, h2⟩ := hi i (by omega)
      obtain ⟨z, hz, _, hw⟩ := DataW.trod_int he h2
      simp at hz
      exact ⟨z, by rw [h1, hz], hQ _ hw⟩
    obtain ⟨f, hf⟩ := choose_any (0 : Int) hz
    have hb0 := bk_many ((List.range n).map D) ((List.range (m - n)).map fun j => D (n + j))
    rw [List.length_map, List.length_range] at hb0
    refine ⟨f, ⟨⟨_, _, rfl⟩, .inr ⟨a, c, rfl, fun i hi => (hf i hi).1⟩⟩, fun i hi => (hf i hi).2, ?_⟩
    show _ ≤ Rows.uptoBulk (DataW.slice _ _)
    omega
end
end Hld
end Go.Proofs.YtpajafecodkndaaGreat
