/- ArenaSums: each call of a round, whatever it answers. -/
import Derived.Test.YtoghagapbhlfeaaArenaSumsPlain
set_option linter.unusedVariables false
set_option linter.unusedSimpArgs false
namespace Go.Proofs.Ytoghagapbhlfeaa
namespace Arn
open Go.RowKit Hp Go.Maps

/-- What a call of a round does to the arena; with 'sm' no word has changed. -/
def SumStep (A A' : Ar) (sm : Bool) : Prop := Bal A' ∧ A'.cap = A.cap ∧ A'.L.length ≤ A.L.length + 1 ∧ (sm = true → Still A A')
def SumsMid (w : World) (b nb : Nat) (Mb : Mem) (A : Ar) (n : Nat) (sm : Bool) (W : World) : Prop := ∃ M' A', Sin w b M' A' n W ∧ ArAt W nb Mb A ∧ SumStep A A' sm
structure SumsAt (w : World) (b nb : Nat) (M Mb : Mem) (A : Ar) (n : Nat) (wc : World) : Prop where
  sin : Sin w b M A n wc
  twin : ArAt wc nb Mb A
  apart : ∀ q, q ∈ Mb.foot nb → q ∉ M.foot b
  bal : Bal A
  few : n ≤ 100000
variable {w wc : World} {b nb n : Nat} {M Mb : Mem} {A : Ar}
theorem SumsMid.of {A' : Ar} {sm : Bool} {w' : World} (h : SumsAt w b nb M Mb A n wc) (ha : After w b M A' (n + 1) wc w') (hs : SumStep A A' sm) : SumsMid w b nb Mb A (n + 1) sm w' := by
  obtain ⟨M', h1, h2, _⟩ := ha
  exact ⟨M', A', h1, h.twin.turn h2 h.apart, hs⟩
theorem sums_none (h : SumsAt w b nb M Mb A n wc) : SumsMid w b nb Mb A (n + 1) false wc := ⟨M, A, h.sin.more (by omega), h.twin, h.bal, rfl, by omega, by simp⟩
theorem err_one (A : Ar) (blk i : Int) : A.err blk i = 0 ∨ A.err blk i = 23 ∨ A.err blk i = 24 := by
  unfold Ar.err; split
  · exact .inr (.inl rfl)
  · split
    · exact .inl rfl
    · exact .inr (.inr rfl)
theorem lay_len (A : Ar) (ws : List Int) : (A.lay ws).1.L.length ≤ A.L.length + 1 := by
  unfold Ar.lay; split
  · simp
  split
  · simp
  · have hl := lead_le A.L 0
    simp; omega
theorem free_len (A : Ar) (k : Int) : (A.free k).1.L.length ≤ A.L.length + 1 := by
  unfold Ar.free; split
  · have := List.length_filter_le (fun x : Blk => !(x.h == k)) A.L
    show (drop A.L k).length ≤ _
    unfold drop; omega
  · show A.L.length ≤ _; omega
theorem write_parts (A : Ar) (blk i v : Int) : (A.write blk i v).1.L.length = A.L.length ∧ (A.write blk i v).1.cap = A.cap := by
  obtain ⟨_, _, _, e4, _⟩ := set_parts A blk i v
  unfold Ar.write; split
  · exact ⟨set_length A blk i v, e4⟩
  · exact ⟨rfl, rfl⟩
theorem swap_parts (A : Ar) (blk i o v : Int) : (A.swap blk i o v).1.L.length = A.L.length ∧ (A.swap blk i o v).1.cap = A.cap := by
  obtain ⟨_, _, _, e4, _⟩ := set_parts A blk i v
  unfold Ar.swap; split
  · split
    · exact ⟨set_length A blk i v, e4⟩
    · exact ⟨rfl, rfl⟩
  · exact ⟨rfl, rfl⟩
theorem add_parts (A : Ar) (blk i v : Int) : (A.add blk i v).1.L.length = A.L.length ∧ (A.add blk i v).1.cap = A.cap := by
  obtain ⟨_, _, _, e4, _⟩ := set_parts A blk i ((A.get blk i + v) % 18446744073709551616)
  unfold Ar.add; split
  · exact ⟨set_length A blk i _, e4⟩
  · exact ⟨rfl, rfl⟩
theorem read_parts (A : Ar) (blk i : Int) : (A.read blk i).1.L.length = A.L.length ∧ (A.read blk i).1.cap = A.cap := by unfold Ar.read; split <;> exact ⟨rfl, rfl⟩
theorem sums_lay (h : SumsAt w b nb M Mb A n wc) {v : Value} {ws : List Int} (hv : WordsAt wc v ws) (ha : ws ≠ [] → ∀ k, v.ownBlock = some k → k ∉ M.foot b) (hw : ∀ x, x ∈ ws → W64 x) :
    ∃ r1 r2, Calls Try.prog 12 #[.pointer (some ⟨b, 0, none⟩), v] wc fun e w' => e = .returned (.tuple #[.int .u64 r1, .int .i64 r2]) ∧ SumsMid w b nb Mb A (n + 1) false w' :=
  ⟨_, _, (sin_lay h.sin (by have := h.few; omega) hv ha hw).mono fun e w' ⟨he, hA⟩ => ⟨he, .of h hA ⟨bal_lay h.bal ws, lay_cap A ws, lay_len A ws, by simp⟩⟩⟩
theorem sums_free (h : SumsAt w b nb M Mb A n wc) (k : Int) (hk : W64 k) :
    ∃ r, Calls Try.prog 16 #[.pointer (some ⟨b, 0, none⟩), .int .u64 k] wc fun e w' => e = .returned (.int .i64 r) ∧ SumsMid w b nb Mb A (n + 1) false w' :=
  ⟨_, (sin_free h.sin (by have := h.few; omega) k hk).mono fun e w' ⟨he, hA⟩ => ⟨he, .of h hA ⟨bal_free h.sin.at_.ok h.bal k, free_cap A k, free_len A k, by simp⟩⟩⟩
theorem sums_read (h : SumsAt w b nb M Mb A n wc) (blk i : Int) (hb : W64 blk) (hi : (Lit.int .i64 i).wf = true) :
    ∃ r1 r2, Calls Try.prog 13 #[.pointer (some ⟨b, 0, none⟩), .agg #[.int .u64 blk, .int .i64 i]] wc fun e w' => e = .returned (.tuple #[.int .u64 r1, .int .i64 r2]) ∧ SumsMid w b nb Mb A (n + 1) true w' :=
  ⟨_, _, (sin_read h.sin (by have := h.few; omega) blk i hb hi).mono fun e w' ⟨he, hA⟩ => ⟨he, .of h hA ⟨bal_read h.bal blk i, (read_parts A blk i).2, by rw [(read_parts A blk i).1]; omega, fun _ => still_read A blk i⟩⟩⟩
theorem sums_write (h : SumsAt w b nb M Mb A n wc) (blk i v : Int) (hb : W64 blk) (hi : (Lit.int .i64 i).wf = true) (hv : W64 v) :
    ∃ r sm, (Calls Try.prog 17 #[.pointer (some ⟨b, 0, none⟩), .agg #[.int .u64 blk, .int .i64 i], .int .u64 v] wc fun e w' => e = .returned (.int .i64 r) ∧ SumsMid w b nb Mb A (n + 1) sm w') ∧ ((r = 0 ∧ sm = false) ∨ (r = 23 ∧ sm = true) ∨ (r = 24 ∧ sm = true)) := by
  have hp := write_parts A blk i v
  have hc := sin_write h.sin (by have := h.few; omega) blk i v hb hi hv
  by_cases h0 : (A.write blk i v).2 = 0
  · exact ⟨0, false, hc.mono fun e w' ⟨he, hA⟩ => ⟨by rw [he, h0], .of h hA ⟨bal_write h.bal blk i v, hp.2, by rw [hp.1]; omega, by simp⟩⟩, .inl ⟨rfl, rfl⟩⟩
  · refine ⟨(A.write blk i v).2, true, hc.mono fun e w' ⟨he, hA⟩ => ⟨he, .of h hA ⟨bal_write h.bal blk i v, hp.2, by rw [hp.1]; omega, fun _ => still_write A blk i v h0⟩⟩, .inr ?_⟩
    unfold Ar.write at h0 ⊢
    split
    · rename_i e; rw [if_pos e] at h0; exact absurd rfl h0
    · rename_i e
      rcases err_one A blk i with e2 | e2 | e2
      · exact absurd e2 e
      · exact .inl ⟨e2, rfl⟩
      · exact .inr ⟨e2, rfl⟩
theorem sums_swap (h : SumsAt w b nb M Mb A n wc) (blk i o v : Int) (hb : W64 blk) (hi : (Lit.int .i64 i).wf = true) (hv : W64 v) :
    ∃ r2 sm, Calls Try.prog 14 #[.pointer (some ⟨b, 0, none⟩), .agg #[.int .u64 blk, .int .i64 i], .int .u64 o, .int .u64 v] wc fun e w' => e = .returned (.tuple #[.bool (!sm), .int .i64 r2]) ∧ SumsMid w b nb Mb A (n + 1) sm w' := by
  have hp := swap_parts A blk i o v
  have hc := sin_swap h.sin (by have := h.few; omega) blk i o v hb hi hv
  cases h0 : (A.swap blk i o v).2.1 with
  | true => exact ⟨_, false, hc.mono fun e w' ⟨he, hA⟩ => ⟨by rw [he, h0]; rfl, .of h hA ⟨bal_swap h.bal blk i o v, hp.2, by rw [hp.1]; omega, by simp⟩⟩⟩
  | false => exact ⟨_, true, hc.mono fun e w' ⟨he, hA⟩ => ⟨by rw [he, h0]; rfl, .of h hA ⟨bal_swap h.bal blk i o v, hp.2, by rw [hp.1]; omega, fun _ => still_swap A blk i o v h0⟩⟩⟩
theorem sums_add (h : SumsAt w b nb M Mb A n wc) (blk i v : Int) (hb : W64 blk) (hi : (Lit.int .i64 i).wf = true) (hv : W64 v) :
    ∃ r1 r2 sm, (Calls Try.prog 15 #[.pointer (some ⟨b, 0, none⟩), .agg #[.int .u64 blk, .int .i64 i], .int .u64 v] wc fun e w' => e = .returned (.tuple #[.int .u64 r1, .int .i64 r2]) ∧ SumsMid w b nb Mb A (n + 1) sm w' ∧ Frm.Turn (M.foot b) wc w') ∧ ((r2 = 0 ∧ sm = (v == 0)) ∨ (r2 = 23 ∧ sm = true) ∨ (r2 = 24 ∧ sm = true)) := by
  have hp := add_parts A blk i v
  have hc := sin_add h.sin (by have := h.few; omega) blk i v hb hi hv
  by_cases h0 : (A.add blk i v).2.2 = 0
  · exact ⟨_, 0, (v == 0), hc.mono fun e w' ⟨he, hA⟩ => ⟨by rw [he, h0], .of h hA ⟨bal_add h.bal blk i v, hp.2, by rw [hp.1]; omega, fun hv0 => still_add h.sin.at_.ok blk i v (.inr (by simpa using hv0))⟩, hA.elim fun _ x => x.2.1⟩, .inl ⟨rfl, rfl⟩⟩
  · refine ⟨_, (A.add blk i v).2.2, true, hc.mono fun e w' ⟨he, hA⟩ => ⟨he, .of h hA ⟨bal_add h.bal blk i v, hp.2, by rw [hp.1]; omega, fun _ => still_add h.sin.at_.ok blk i v (.inl h0)⟩, hA.elim fun _ x => x.2.1⟩, .inr ?_⟩
    unfold Ar.add at h0 ⊢
    split
    · rename_i e; rw [if_pos e] at h0; exact absurd rfl h0
    · rename_i e
      rcases err_one A blk i with e2 | e2 | e2
      · exact absurd e2 e
      · exact .inl ⟨e2, rfl⟩
      · exact .inr ⟨e2, rfl⟩

/-- How many words the first j blocks have. -/
def sumTo (ys : List Got) (j : Nat) : Nat := ((ys.take j).map fun y => y.1.ws.length).sum
theorem sumTo_succ {ys : List Got} {j : Nat} {y : Got} (h : ys[j]? = some y) : sumTo ys (j + 1) = sumTo ys j + y.1.ws.length := by
  unfold sumTo
  rw [List.take_add_one, h]
  simp
theorem sumTo_le {ys : List Got} {L : List Blk} (h : ys.map Prod.fst = L) (j : Nat) : sumTo ys j ≤ used L := by
  rw [← used_sum h]
  unfold sumTo
  have : ∀ (l : List Nat) (j : Nat), (l.take j).sum ≤ l.sum := by
    intro l
    induction l with
    | nil => simp
    | cons x t ih => intro j; cases j with
      | zero => simp
      | succ j => simp; exact ih j
  have h2 := this (ys.map fun y => y.1.ws.length) j
  rwa [← List.map_take] at h2
theorem sumTo_all {ys : List Got} {L : List Blk} (h : ys.map Prod.fst = L) : sumTo ys ys.length = used L := by
  unfold sumTo; rw [List.take_length]; exact used_sum h
/-- All blocks, as Blocks hands them out. -/
theorem sums_blocks {n : Nat} (h : Sin w b M A n wc) (hl : A.L.length ≤ 300) :
    Calls Try.prog 25 #[.pointer (some ⟨b, 0, none⟩), .int .i64 300] wc fun e w' => ∃ ao c ys, e = .returned (.slice ao ys.length c) ∧ w'.ownsRow wc.heap.size 70 2 (.slice ao ys.length c) ys.length (gotCells ys) ∧ ys.map Prod.fst = A.L ∧ Frm.Turn [] wc w' := by
  refine (blocks_any h.at_ 300).mono ?_
  rintro e w' ⟨v, ys, rfl, hr, hy, _, hT⟩
  rw [List.take_of_length_le (by simpa using hl)] at hy
  rcases ownsRow_shape hr with ⟨rfl, e⟩ | ⟨g, cap, rfl, _⟩
  · exact ⟨none, 0, ys, by rw [e], by rw [e] at hr ⊢; exact hr, hy, hT⟩
  · exact ⟨_, _, ys, rfl, hr, hy, hT⟩
theorem size_got {ys : List Got} {j : Nat} {y : Got} (hok : A.Ok) (h : ys.map Prod.fst = A.L) (hy : ys[j]? = some y) : A.size y.1.h = y.1.ws.length ∧ W64 y.1.h ∧ y.1.ws.length ≤ 2048 := by
  have hm : y.1 ∈ A.L := by rw [← h]; exact List.mem_map.2 ⟨y, List.mem_of_getElem? hy, rfl⟩
  have h1 := hok.hnd _ hm
  have h2 := hok.births
  have h3 := hok.len _ hm
  refine ⟨?_, by unfold W64; omega, h3.2⟩
  unfold Ar.size
  rw [hok.look_some.2 ⟨y.1, hm, rfl, rfl⟩]; rfl
theorem gotCells_get2 : ∀ (l : List Got) (i : Nat) (y : Got), l[i]? = some y → (gotCells l)[i * 2 + 1]? = some (.slice (some ⟨y.2.1, 0, none⟩) y.1.ws.length y.2.2) := by
  intro l
  induction l with
  | nil => intro i y h; simp at h
  | cons x t ih =>
    intro i y h
    cases i with
    | zero => simp at h; subst h; simp [gotCells]
    | succ i =>
      simp at h
      have := ih i y h
      have e : (i + 1) * 2 + 1 = (i * 2 + 1) + 2 := by omega
      rw [e]
      simpa [gotCells] using this
end Arn
end Go.Proofs.Ytoghagapbhlfeaa
