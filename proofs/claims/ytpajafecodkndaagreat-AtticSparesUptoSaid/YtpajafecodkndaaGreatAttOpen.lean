/- A case of law 15 as an argument of bounded bulk. -/
import Derived.Test.YtpajafecodkndaaGreatHoldPlaysOpen
import Derived.Test.YtpajafecodkndaaGreatAttSetMem
set_option linter.unusedVariables false
set_option linter.unusedSimpArgs false
namespace Go.Proofs.YtpajafecodkndaaGreat
namespace Att
open Go.RowKit Go.Maps Arn Pac Hld Go.ChangeShapes Go.WideShapes Go.Deep Go.ChangeAt
theorem cons_of {α : Type} {l : List α} {n : Nat} (h : l.length = n + 1) : ∃ c t, l = c :: t ∧ t.length = n := by
  cases l with
  | nil => simp at h
  | cons c t => exact ⟨c, t, rfl, by simpa using h⟩
theorem bk_mem {H : Type} {l : List (DataW H)} {d : DataW H} (h : d ∈ l) : Rows.uptoBulk d ≤ Rows.uptoBulkAll l := by
  induction l with
  | nil => cases h
  | cons a t ih =>
    simp only [Rows.uptoBulkAll]
    rcases List.mem_cons.1 h with rfl | h
    · omega
    · have := ih h; omega
theorem bk_agg {H : Type} (l : List (DataW H)) : Rows.uptoBulkAll l < Rows.uptoBulk (DataW.agg l) := by simp only [Rows.uptoBulk]; omega
section
variable {H : Type} {enc : TypeId × Value → H} {w : World} {base : Nat} {sp : Nat → Bool} {held : Bool}
theorem drop_one {α : Type} {l : List α} {i : Nat} {v : α} (h : (l.drop (i * 1)).take 1 = [v]) : l[i]? = some v := by
  have : ((l.drop (i * 1)).take 1)[0]? = some v := by rw [h]; rfl
  simpa using this
theorem int_arr {t e : TypeId} {n fuel : Nat} {K : IntKind} {cs : List Value} {x : DataW H × List MemPlace} (ht : Tryz.prog.underlying t = some (.array n e)) (he : Tryz.prog.underlying e = some (.int K)) (hc : Tryz.prog.cellsOf e = 1) (h : DataW.trod enc Tryz.prog w base sp held fuel t cs = some x) :
    ∃ z : Nat → Int, ∀ i, i < n → cs[i]? = some (.int K (z i)) ∧ (Lit.int K (z i)).wf = true := by
  obtain ⟨xs, m, _, _, _, hl, hi⟩ := DataW.trod_array ht h
  rw [hc] at hi
  have hz : ∀ i, i < n → ∃ z : Int, cs[i]? = some (.int K z) ∧ (Lit.int K z).wf = true := fun i hin => by
    have h1 := hi i hin
    obtain ⟨y, hy⟩ : ∃ y, xs[i]? = some y := ⟨_, List.getElem?_eq_getElem (by omega)⟩
    rw [hy] at h1
    obtain ⟨z, hz, _, hw⟩ := DataW.trod_int he h1
    exact ⟨z, drop_one hz, hw⟩
  exact choose_any 0 hz
theorem bool_arr {t e : TypeId} {n fuel : Nat} {cs : List Value} {x : DataW H × List MemPlace} (ht : Tryz.prog.underlying t = some (.array n e)) (he : Tryz.prog.underlying e = some .bool) (hc : Tryz.prog.cellsOf e = 1) (h : DataW.trod enc Tryz.prog w base sp held fuel t cs = some x) :
    ∃ z : Nat → Bool, ∀ i, i < n → cs[i]? = some (.bool (z i)) := by
  obtain ⟨xs, m, _, _, _, hl, hi⟩ := DataW.trod_array ht h
  rw [hc] at hi
  have hz : ∀ i, i < n → ∃ z : Bool, cs[i]? = some (.bool z) := fun i hin => by
    have h1 := hi i hin
    obtain ⟨y, hy⟩ : ∃ y, xs[i]? = some y := ⟨_, List.getElem?_eq_getElem (by omega)⟩
    rw [hy] at h1
    obtain ⟨z, hz, _⟩ := DataW.trod_bool he h1
    exact ⟨z, drop_one hz⟩
  exact choose_any false hz
theorem list_arr {t e : TypeId} {n fuel : Nat} {cs : List Value} {x : DataW H × List MemPlace} (ht : Tryz.prog.underlying t = some (.array n e)) (hc : Tryz.prog.cellsOf e = 1) (h : DataW.trod enc Tryz.prog w base sp held fuel t cs = some x) (i : Nat) (hin : i < n) :
    ∃ m y, DataW.trod enc Tryz.prog w base sp held m e ((cs.drop (i * 1)).take 1) = some y ∧ Rows.uptoBulk y.1 ≤ Rows.uptoBulk x.1 := by
  obtain ⟨xs, m, _, hx, _, hl, hi⟩ := DataW.trod_array ht h
  rw [hc] at hi
  have h1 := hi i hin
  obtain ⟨y, hy⟩ : ∃ y, xs[i]? = some y := ⟨_, List.getElem?_eq_getElem (by omega)⟩
  rw [hy] at h1
  refine ⟨m, y, h1, ?_⟩
  have h2 := bk_mem (List.mem_map_of_mem (f := Prod.fst) (List.mem_of_getElem? hy))
  have h3 := bk_agg (xs.map Prod.fst)
  rw [hx]
  show Rows.uptoBulk y.1 ≤ Rows.uptoBulk (DataW.agg (xs.map Prod.fst))
  omega
theorem case_is : aStruct Tryz.prog 109 = true := by kernel_rfl
theorem part15 {t : TypeId} {fs : Array Field} {fuel : Nat} {cs : List Value} {x : DataW H × List MemPlace} (hu : Tryz.prog.underlying t = some (.struct fs)) (h : DataW.trod enc Tryz.prog w base sp held fuel t cs = some x)
    {i ty off n : Nat} (hf : fieldOf Tryz.prog t i = some (ty, off)) (hc : Tryz.prog.cellsOf ty = n) :
    ∃ m y, DataW.trod enc Tryz.prog w base sp held m ty ((cs.drop off).take n) = some y ∧ Rows.uptoBulk y.1 ≤ Rows.uptoBulk x.1 := by
  obtain ⟨xs, m, _, hx, hlen, hxl, hfs⟩ := DataW.trod_struct hu h
  obtain ⟨f, hfi, e1, e2⟩ := field_of hu hf
  have h1 := hfs i f hfi
  rw [e1, e2, hc] at h1
  have hi : i < fs.size := (Array.getElem?_eq_some_iff.1 hfi).1
  obtain ⟨y, hy⟩ : ∃ y, xs[i]? = some y := ⟨_, List.getElem?_eq_getElem (by omega)⟩
  rw [hy] at h1
  refine ⟨m, y, h1, ?_⟩
  have h2 := bk_mem (List.mem_map_of_mem (f := Prod.fst) (List.mem_of_getElem? hy))
  have h3 := bk_agg (xs.map Prod.fst)
  rw [hx]
  show Rows.uptoBulk y.1 ≤ Rows.uptoBulk (DataW.agg (xs.map Prod.fst))
  omega
/-- A list of small numbers, of bounded bulk. -/
theorem u8_list {fuel : Nat} {v : Value} {x : DataW H × List MemPlace} (h : DataW.trod enc Tryz.prog w base sp held fuel 24 [v] = some x) :
    ∃ ao n c z, v = .slice ao n c ∧ KindC .u8 w (.slice ao n c) z n ∧ (∀ i, i < n → 0 ≤ z i ∧ z i < 256) ∧ n ≤ Rows.uptoBulk x.1 := by
  obtain ⟨ao, n, c, hx⟩ := Go.Joins.slice_form Hld.under_u8s h
  simp only [List.cons.injEq, and_true] at hx
  subst hx
  obtain ⟨z, h1, h2, h3⟩ := Hld.kind_bulk (Q := fun k => 0 ≤ k ∧ k < 256) Hld.under_u8s Hld.under_u8 Hld.info_u8' (fun _ h => Hld.of_wf_8 h) h
  exact ⟨ao, n, c, z, rfl, h1, h2, h3⟩
theorem wf_i64 {n : Int} (h : (Lit.int .i64 n).wf = true) : -9223372036854775808 ≤ n ∧ n ≤ 9223372036854775807 := by
  simp [Lit.wf, IntKind.min, IntKind.max, IntKind.signed, IntKind.bits] at h
  omega
set_option maxRecDepth 100000 in
theorem case_open {r : Reach} {b0 : Nat} {v : Value} {d : DataW H} {p : List MemPlace} (hv : Value.okWide Tryz.prog w r b0 109 v) (h : DataW.Trod enc Tryz.prog w base sp held 109 v d p) :
    ∃ (aW : Option Addr) (nW cW : Nat) (Hh : Nat → Int) (I : Nat → Bool) (aL : Nat → Option Addr) (nL cL : Nat → Nat) (zL : Nat → Nat → Int) (M : Nat → Int) (aP : Option Addr) (nP cP : Nat) (zP : Nat → Int) (u : Nat → Value) (l : Nat → List Int),
      v = .agg #[.slice aW nW cW, .int .u8 (Hh 0), .int .u8 (Hh 1), .int .u8 (Hh 2), .int .u8 (Hh 3), .int .u8 (Hh 4), .int .u8 (Hh 5), .bool (I 0), .bool (I 1), .bool (I 2), .slice (aL 0) (nL 0) (cL 0), .slice (aL 1) (nL 1) (cL 1), .slice (aL 2) (nL 2) (cL 2), .int .i64 (M 0), .int .i64 (M 1), .int .i64 (M 2), .slice aP nP cP] ∧
      LstC w (.slice aW nW cW) u l nW ∧ (∀ i, i < nW → ∀ x, x ∈ l i → W64 x) ∧ sumL l nW ≤ 10 * Rows.uptoBulk d ∧ (∀ i, i < 6 → 0 ≤ Hh i ∧ Hh i < 256) ∧
      (∀ i, i < 3 → KindC .u8 w (.slice (aL i) (nL i) (cL i)) (zL i) (nL i) ∧ (∀ j, j < nL i → 0 ≤ zL i j ∧ zL i j < 256) ∧ nL i ≤ Rows.uptoBulk d) ∧ (∀ i, i < 3 → -9223372036854775808 ≤ M i ∧ M i ≤ 9223372036854775807) ∧
      KindC .u8 w (.slice aP nP cP) zP nP ∧ (∀ j, j < nP → 0 ≤ zP j ∧ zP j < 256) ∧ nP ≤ Rows.uptoBulk d := by
  obtain ⟨fs, hu⟩ := a_struct case_is
  obtain ⟨ca, rfl, hsz⟩ := okWide_struct hu hv
  have hk : Tryz.prog.cellsOf 109 = 17 := by kernel_rfl
  rw [hk] at hsz
  obtain ⟨fuel, h⟩ := h
  obtain ⟨l0, rfl⟩ : ∃ l : List Value, ca = l.toArray := ⟨ca.toList, by simp⟩
  have hl0 : l0.length = 17 := by simpa using hsz
  obtain ⟨c0, l1, rfl, hl1⟩ := cons_of hl0
  obtain ⟨c1, l2, rfl, hl2⟩ := cons_of hl1
  obtain ⟨c2, l3, rfl, hl3⟩ := cons_of hl2
  obtain ⟨c3, l4, rfl, hl4⟩ := cons_of hl3
  obtain ⟨c4, l5, rfl, hl5⟩ := cons_of hl4
  obtain ⟨c5, l6, rfl, hl6⟩ := cons_of hl5
  obtain ⟨c6, l7, rfl, hl7⟩ := cons_of hl6
  obtain ⟨c7, l8, rfl, hl8⟩ := cons_of hl7
  obtain ⟨c8, l9, rfl, hl9⟩ := cons_of hl8
  obtain ⟨c9, l10, rfl, hl10⟩ := cons_of hl9
  obtain ⟨c10, l11, rfl, hl11⟩ := cons_of hl10
  obtain ⟨c11, l12, rfl, hl12⟩ := cons_of hl11
  obtain ⟨c12, l13, rfl, hl13⟩ := cons_of hl12
  obtain ⟨c13, l14, rfl, hl14⟩ := cons_of hl13
  obtain ⟨c14, l15, rfl, hl15⟩ := cons_of hl14
  obtain ⟨c15, l16, rfl, hl16⟩ := cons_of hl15
  obtain ⟨c16, l17, rfl, hl17⟩ := cons_of hl16
  obtain rfl : l17 = [] := List.eq_nil_of_length_eq_zero hl17
  clear hsz hv
  have h : DataW.trod enc Tryz.prog w base sp held fuel 109 [c0, c1, c2, c3, c4, c5, c6, c7, c8, c9, c10, c11, c12, c13, c14, c15, c16] = some (d, p) := h
  obtain ⟨m0, y0, e0, b0⟩ := part15 hu h (i := 0) (ty := 22) (off := 0) (n := 1) (by kernel_rfl) (by kernel_rfl)
  have e0 : DataW.trod enc Tryz.prog w base sp held m0 22 [c0] = some y0 := e0
  obtain ⟨m1, y1, e1, b1⟩ := part15 hu h (i := 1) (ty := 104) (off := 1) (n := 6) (by kernel_rfl) (by kernel_rfl)
  have e1 : DataW.trod enc Tryz.prog w base sp held m1 104 [c1, c2, c3, c4, c5, c6] = some y1 := e1
  obtain ⟨m2, y2, e2, b2⟩ := part15 hu h (i := 2) (ty := 105) (off := 7) (n := 3) (by kernel_rfl) (by kernel_rfl)
  have e2 : DataW.trod enc Tryz.prog w base sp held m2 105 [c7, c8, c9] = some y2 := e2
  obtain ⟨m3, y3, e3, b3⟩ := part15 hu h (i := 3) (ty := 106) (off := 10) (n := 3) (by kernel_rfl) (by kernel_rfl)
  have e3 : DataW.trod enc Tryz.prog w base sp held m3 106 [c10, c11, c12] = some y3 := e3
  obtain ⟨m4, y4, e4, b4⟩ := part15 hu h (i := 4) (ty := 107) (off := 13) (n := 3) (by kernel_rfl) (by kernel_rfl)
  have e4 : DataW.trod enc Tryz.prog w base sp held m4 107 [c13, c14, c15] = some y4 := e4
  obtain ⟨m5, y5, e5, b5⟩ := part15 hu h (i := 5) (ty := 24) (off := 16) (n := 1) (by kernel_rfl) (by kernel_rfl)
  have e5 : DataW.trod enc Tryz.prog w base sp held m5 24 [c16] = some y5 := e5
  clear h
  obtain ⟨aW, nW, cW, hx⟩ := Go.Joins.slice_form Hld.under_ll e0
  simp only [List.cons.injEq, and_true] at hx
  subst hx
  obtain ⟨u, l, hL, hl64, hsum⟩ := Hld.lst_open e0
  obtain ⟨zH, hH⟩ := int_arr (n := 6) (e := 5) (K := .u8) (by kernel_rfl) Hld.under_u8 Hld.info_u8' e1
  obtain ⟨zI, hI⟩ := bool_arr (n := 3) (e := 4) (by kernel_rfl) Tryz.underlying4 (by kernel_rfl) e2
  obtain ⟨n10, q10, g10, k10⟩ := list_arr (n := 3) (e := 24) (by kernel_rfl) (by kernel_rfl) e3 0 (by omega)
  obtain ⟨n11, q11, g11, k11⟩ := list_arr (n := 3) (e := 24) (by kernel_rfl) (by kernel_rfl) e3 1 (by omega)
  obtain ⟨n12, q12, g12, k12⟩ := list_arr (n := 3) (e := 24) (by kernel_rfl) (by kernel_rfl) e3 2 (by omega)
  obtain ⟨a0, s0, t0, z0, rfl, u0, v0, w0⟩ := u8_list g10
  obtain ⟨a1, s1, t1, z1, rfl, u1, v1, w1⟩ := u8_list g11
  obtain ⟨a2, s2, t2, z2, rfl, u2, v2, w2⟩ := u8_list g12
  obtain ⟨zM, hM⟩ := int_arr (n := 3) (e := 3) (K := .i64) (by kernel_rfl) Hld.under_i (by kernel_rfl) e4
  obtain ⟨aP, nP, cP, zP, rfl, uP, vP, wP⟩ := u8_list e5
  obtain ⟨hh0, hw0⟩ := hH 0 (by omega)
  obtain rfl : c1 = .int .u8 (zH 0) := by simpa using hh0
  obtain ⟨hh1, hw1⟩ := hH 1 (by omega)
  obtain rfl : c2 = .int .u8 (zH 1) := by simpa using hh1
  obtain ⟨hh2, hw2⟩ := hH 2 (by omega)
  obtain rfl : c3 = .int .u8 (zH 2) := by simpa using hh2
  obtain ⟨hh3, hw3⟩ := hH 3 (by omega)
  obtain rfl : c4 = .int .u8 (zH 3) := by simpa using hh3
  obtain ⟨hh4, hw4⟩ := hH 4 (by omega)
  obtain rfl : c5 = .int .u8 (zH 4) := by simpa using hh4
  obtain ⟨hh5, hw5⟩ := hH 5 (by omega)
  obtain rfl : c6 = .int .u8 (zH 5) := by simpa using hh5
  have hi0 := hI 0 (by omega)
  obtain rfl : c7 = .bool (zI 0) := by simpa using hi0
  have hi1 := hI 1 (by omega)
  obtain rfl : c8 = .bool (zI 1) := by simpa using hi1
  have hi2 := hI 2 (by omega)
  obtain rfl : c9 = .bool (zI 2) := by simpa using hi2
  obtain ⟨hm0, hv0⟩ := hM 0 (by omega)
  obtain rfl : c13 = .int .i64 (zM 0) := by simpa using hm0
  obtain ⟨hm1, hv1⟩ := hM 1 (by omega)
  obtain rfl : c14 = .int .i64 (zM 1) := by simpa using hm1
  obtain ⟨hm2, hv2⟩ := hM 2 (by omega)
  obtain rfl : c15 = .int .i64 (zM 2) := by simpa using hm2
  refine ⟨aW, nW, cW, zH, zI, fun | 0 => a0 | 1 => a1 | _ => a2, fun | 0 => s0 | 1 => s1 | _ => s2, fun | 0 => t0 | 1 => t1 | _ => t2, fun | 0 => z0 | 1 => z1 | _ => z2, zM, aP, nP, cP, zP, u, l, rfl, hL, hl64, ?_, fun i hi => ?_, fun i hi => ?_, fun i hi => ?_, uP, vP, ?_⟩
  · show _ ≤ 10 * Rows.uptoBulk d
    have : Rows.uptoBulk y0.1 ≤ Rows.uptoBulk d := b0
    omega
  · exact Hld.of_wf_8 (hH i hi).2
  · have b3' : Rows.uptoBulk y3.1 ≤ Rows.uptoBulk d := b3
    have : i = 0 ∨ i = 1 ∨ i = 2 := by omega
    rcases this with rfl | rfl | rfl
    · exact ⟨u0, v0, Nat.le_trans w0 (Nat.le_trans k10 b3')⟩
    · exact ⟨u1, v1, Nat.le_trans w1 (Nat.le_trans k11 b3')⟩
    · exact ⟨u2, v2, Nat.le_trans w2 (Nat.le_trans k12 b3')⟩
  · exact wf_i64 (hM i hi).2
  · exact Nat.le_trans wP b5
end
end Att
end Go.Proofs.YtpajafecodkndaaGreat
