/- A list of operations in memory; great and of of the laws. -/
import Derived.Test.YtgjgoflkbcmgnaaArenaBlocks
set_option linter.unusedVariables false
set_option linter.unusedSimpArgs false
namespace Go.Proofs.Ytgjgoflkbcmgnaa
namespace Arn
open Go.RowKit Hp Go.Maps

structure OpV where
  k : Int
  a : Int
  o : Int
  ao : Option Addr
  wn : Nat
  wc : Nat
  h : Int
  xb : Int
  xa : Int
  n : Int
  m : Int
def OpV.cells (x : OpV) : List Value := [.int .i64 x.k, .int .i64 x.a, .int .i64 x.o, .slice x.ao x.wn x.wc, .int .u64 x.h, .int .u64 x.xb, .int .i64 x.xa, .int .u64 x.n, .int .u64 x.m]
def OpV.val (x : OpV) : Value := .agg #[.int .i64 x.k, .int .i64 x.a, .int .i64 x.o, .slice x.ao x.wn x.wc, .int .u64 x.h, .int .u64 x.xb, .int .i64 x.xa, .int .u64 x.n, .int .u64 x.m]
structure OpV.Ok (x : OpV) : Prop where
  k : (Lit.int .i64 x.k).wf = true
  a : (Lit.int .i64 x.a).wf = true
  o : (Lit.int .i64 x.o).wf = true
  h : W64 x.h
  xb : W64 x.xb
  xa : (Lit.int .i64 x.xa).wf = true
  n : W64 x.n
  m : W64 x.m
structure OpAt (w : World) (b o : Nat) (x : OpV) : Prop where
  c0 : w.cell? ⟨b, o, none⟩ = some (.int .i64 x.k)
  c1 : w.cell? ⟨b, o + 1, none⟩ = some (.int .i64 x.a)
  c2 : w.cell? ⟨b, o + 2, none⟩ = some (.int .i64 x.o)
  c3 : w.cell? ⟨b, o + 3, none⟩ = some (.slice x.ao x.wn x.wc)
  c4 : w.cell? ⟨b, o + 4, none⟩ = some (.int .u64 x.h)
  c5 : w.cell? ⟨b, o + 5, none⟩ = some (.int .u64 x.xb)
  c6 : w.cell? ⟨b, o + 6, none⟩ = some (.int .i64 x.xa)
  c7 : w.cell? ⟨b, o + 7, none⟩ = some (.int .u64 x.n)
  c8 : w.cell? ⟨b, o + 8, none⟩ = some (.int .u64 x.m)
  ok : x.Ok
  words : ∃ ws, WordsAt w (.slice x.ao x.wn x.wc) ws ∧ (∀ u, u ∈ ws → W64 u) ∧ (ws ≠ [] → ∀ k, (Value.slice x.ao x.wn x.wc).ownBlock = some k → k < w.heap.size)
def OpsAt (w : World) (bl off len : Nat) : Prop := ∀ i, i < len → ∃ x, OpAt w bl (off + i * 9) x
theorem OpAt.step {w w' : World} {b o : Nat} {x : OpV} (h : OpAt w b o x) (ht : Frm.Turn [] w w') : OpAt w' b o x := by
  obtain ⟨ws, h1, h2, h3⟩ := h.words
  exact ⟨ht.cell h.c0 (by simp), ht.cell h.c1 (by simp), ht.cell h.c2 (by simp), ht.cell h.c3 (by simp), ht.cell h.c4 (by simp), ht.cell h.c5 (by simp), ht.cell h.c6 (by simp), ht.cell h.c7 (by simp), ht.cell h.c8 (by simp), h.ok,
    ⟨ws, h1.turn ht (by simp), h2, fun hne k hk => Nat.lt_of_lt_of_le (h3 hne k hk) ht.size⟩⟩
theorem OpsAt.step {w w' : World} {bl off len : Nat} (h : OpsAt w bl off len) (ht : Frm.Turn [] w w') : OpsAt w' bl off len := fun i hi => (h i hi).elim fun x hx => ⟨x, hx.step ht⟩

set_option maxHeartbeats 1000000 in
theorem great_any (a0 : Option Addr) (len cap : Nat) (w : World) (h : 0 < len → ∃ bl off, a0 = some ⟨bl, off, none⟩ ∧ OpsAt w bl off len) (hlen : len ≤ 9223372036854775807) :
    Calls Try.prog 7 #[.slice a0 len cap] w fun e w' => ∃ r : Bool, e = .returned (.bool r) ∧ (r = false → len ≤ 100) ∧ Frm.Turn [] w w' := by
  have H := Lib.hid h
  clear h
  go_enter Try.func7, Try.ntmps7
  go_wp2
  go_loopw [3, 8] (fun s i wr => ∃ (k : Nat) (n : Int), k ≤ len ∧ i = .int .i64 k ∧ s = .int .i64 n ∧ Frm.Turn [] w wr) (fun s i _ => len - (intOf i).toNat)
  case atStart => exact ⟨0, 0, Nat.zero_le _, rfl, rfl, Frm.Turn.refl [] w⟩
  case round =>
    obtain ⟨k, n, hk, rfl, rfl, hT⟩ := hrel
    by_cases hlt : k < len
    · obtain ⟨bl, off, rfl, hops⟩ := H.out (by omega)
      obtain ⟨x, hx⟩ := hops k hlt
      have hx' := hx.step hT
      have c0 := hx'.c0; have c1 := hx'.c1; have c2 := hx'.c2; have c3 := hx'.c3; have c4 := hx'.c4; have c5 := hx'.c5; have c6 := hx'.c6; have c7 := hx'.c7; have c8 := hx'.c8
      have HT := Lib.hid hT
      clear hops hx hx' hT
      go_wp2
      · go_ret
        exact ⟨true, rfl, by simp, HT.out.alloc _⟩
      · refine ⟨⟨k + 1, _, by omega, by simp, rfl, HT.out.alloc _⟩, ?_⟩
        simp [intOf]; omega
    · obtain rfl : k = len := by omega
      clear H
      go_wp2
      go_ret
      exact ⟨_, rfl, by simp; omega, hT⟩

theorem wrap64_small {i : Nat} (h : i ≤ 100000000) : wrap64 (i : Int) = (i : Int) := by
  unfold wrap64; omega
theorem gotCells_get : ∀ (l : List Got) (i : Nat) (y : Got), l[i]? = some y → (gotCells l)[i * 2]? = some (.int .u64 y.1.h) := by
  intro l
  induction l with
  | nil => intro i y h; simp at h
  | cons x t ih =>
    intro i y h
    cases i with
    | zero => simp at h; subst h; simp [gotCells]
    | succ i =>
      simp at h
      have := ih i y h
      have e : (i + 1) * 2 = i * 2 + 2 := by omega
      rw [e]
      simpa [gotCells] using this
theorem add_zero_off (g k : Nat) : (⟨g, 0, none⟩ : Addr).add k = ⟨g, k, none⟩ := by
  unfold Addr.add; split
  · rename_i e; simp [e]
  · simp
def OpV.of (x : OpV) (l : List Got) : OpV := if 0 < x.o ∧ x.o ≤ (l.length : Int) then { x with h := (l.map (·.1.h)).getD (x.o - 1).toNat 0, xb := (l.map (·.1.h)).getD (x.o - 1).toNat 0 } else x
set_option maxHeartbeats 4000000 in
theorem of_any (x : OpV) (hx : x.Ok) (v : Value) (ys : List Got) (w : World) {base : Nat} (hr : w.ownsRow base 70 2 v ys.length (gotCells ys)) (hys : ys.length ≤ 60000) :
    Calls Try.prog 26 #[x.val, v] w fun e w' => e = .returned (x.of ys).val ∧ Frm.Turn [] w w' := by
  obtain ⟨vo, vc, rfl⟩ : ∃ a c, v = .slice a ys.length c := by
    rcases ownsRow_shape hr with ⟨rfl, e⟩ | ⟨g, cap, rfl, _⟩
    · exact ⟨none, 0, by rw [e]⟩
    · exact ⟨_, _, rfl⟩
  by_cases h0 : 0 < x.o
  · by_cases h1 : x.o ≤ (ys.length : Int)
    · obtain ⟨i, hi⟩ : ∃ i : Nat, x.o = (i : Int) + 1 := ⟨(x.o - 1).toNat, by omega⟩
      have hil : i < ys.length := by omega
      obtain ⟨y, hy⟩ : ∃ y, ys[i]? = some y := ⟨_, List.getElem?_eq_getElem hil⟩
      have e1 : x.of ys = { x with h := y.1.h, xb := y.1.h } := by
        unfold OpV.of
        rw [if_pos ⟨h0, h1⟩, hi]
        simp [hy]
      rw [e1]
      rcases ownsRow_shape hr with ⟨_, e⟩ | ⟨g, cap, e, _⟩
      · omega
      · cases e
        have hcg : w.cell? ⟨g, i * 2, none⟩ = some (.int .u64 y.1.h) := by
          have h2 := World.ownsRow.cells hr rfl (i * 2) (.int .u64 y.1.h) (by
            rw [gotCells_get ys i y hy])
          rwa [add_zero_off] at h2
        have hcg2 : ∀ o1 o2, ((w.alloc o1).alloc o2).cell? ⟨g, i * 2, none⟩ = some (.int .u64 y.1.h) := fun o1 o2 => (((Frm.Turn.refl [] w).alloc o1).alloc o2).cell hcg (by simp)
        have hgl : g < w.heap.size := (hr.lt g rfl).2
        have hg0 : g ≠ w.heap.size := by omega
        have hg1 : w.heap.size ≠ g := by omega
        obtain ⟨k, a, o, ao, wn, wc, h, xb, xa, n, m⟩ := x
        simp only at hi h0 h1
        subst hi
        clear hx e1 hr hy
        have hw1 : wrap64 (i : Int) = (i : Int) := wrap64_small (by omega)
        have hi0 : (0 : Int) ≤ (i : Int) := by omega
        have hi1 : (i : Int) < (ys.length : Int) := by omega
        show Calls _ _ #[.agg #[.int .i64 k, .int .i64 a, .int .i64 ((i : Int) + 1), .slice ao wn wc, .int .u64 h, .int .u64 xb, .int .i64 xa, .int .u64 n, .int .u64 m], _] _ _
        go_enter Try.func26, Try.ntmps26
        go_wp2
        go_region
        all_goals go_wp2
        all_goals exact bodyPost_ret (v := OpV.val ⟨k, a, (i : Int) + 1, ao, wn, wc, y.1.h, y.1.h, xa, n, m⟩) (by simp [results, Try.results26, go_sem, OpV.val]) rfl ⟨rfl, (((Frm.Turn.refl [] w).drew).alloc _).alloc _⟩
    · have e1 : x.of ys = x := by unfold OpV.of; rw [if_neg (by omega)]
      rw [e1]
      show Calls _ _ #[.agg #[.int .i64 x.k, .int .i64 x.a, .int .i64 x.o, .slice x.ao x.wn x.wc, .int .u64 x.h, .int .u64 x.xb, .int .i64 x.xa, .int .u64 x.n, .int .u64 x.m], _] _ _
      go_enter Try.func26, Try.ntmps26
      go_wp2
      exact bodyPost_ret (v := x.val) (by simp [results, Try.results26, go_sem, OpV.val]) rfl ⟨rfl, ((Frm.Turn.refl [] w).alloc _).alloc _⟩
  · have e1 : x.of ys = x := by unfold OpV.of; rw [if_neg (by omega)]
    rw [e1]
    show Calls _ _ #[.agg #[.int .i64 x.k, .int .i64 x.a, .int .i64 x.o, .slice x.ao x.wn x.wc, .int .u64 x.h, .int .u64 x.xb, .int .i64 x.xa, .int .u64 x.n, .int .u64 x.m], _] _ _
    go_enter Try.func26, Try.ntmps26
    go_wp2
    exact bodyPost_ret (v := x.val) (by simp [results, Try.results26, go_sem, OpV.val]) rfl ⟨rfl, ((Frm.Turn.refl [] w).alloc _).alloc _⟩
end Arn
end Go.Proofs.Ytgjgoflkbcmgnaa
