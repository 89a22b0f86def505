/- The document's arena in memory, by value: its list of blocks; how many words are used. -/
import Derived.Test.YtfbnidjcimcfoaaArenaSin
set_option linter.unusedVariables false
set_option linter.unusedSimpArgs false
namespace Go.Proofs.Ytfbnidjcimcfoaa
namespace Arn
open Go.RowKit Hp Go.Maps

abbrev RB := Blk × Value
def rbCells (l : List RB) : List Value := l.flatMap fun x => [.int .u64 x.1.h, x.2]
theorem rbCells_length (l : List RB) : (rbCells l).length = l.length * 2 := by
  induction l with
  | nil => rfl
  | cons x t ih => simp only [rbCells, List.flatMap_cons, List.length_append, List.length_cons, List.length_nil] at ih ⊢; omega
theorem rbCells_append (l r : List RB) : rbCells (l ++ r) = rbCells l ++ rbCells r := by simp [rbCells]
theorem rbCells_get : ∀ (l : List RB) (i : Nat) (y : RB), l[i]? = some y → (rbCells l)[i * 2]? = some (.int .u64 y.1.h) ∧ (rbCells l)[i * 2 + 1]? = some y.2 := by
  intro l
  induction l with
  | nil => intro i y h; simp at h
  | cons x t ih =>
    intro i y h
    cases i with
    | zero => simp at h; subst h; simp [rbCells]
    | succ i =>
      simp at h
      have := ih i y h
      have e : (i + 1) * 2 = i * 2 + 2 := by omega
      have e2 : (i + 1) * 2 + 1 = (i * 2 + 1) + 2 := by omega
      rw [e2, e]
      simpa [rbCells] using this
theorem rbCells_take (l : List RB) (k : Nat) : rbCells (l.take k) = (rbCells l).take (k * 2) := by
  induction l generalizing k with
  | nil => simp [rbCells]
  | cons x t ih =>
    cases k with
    | zero => simp [rbCells]
    | succ k =>
      have e : (k + 1) * 2 = k * 2 + 2 := by omega
      rw [e, List.take_succ_cons]
      show rbCells (x :: t.take k) = _
      have h1 : rbCells (x :: t.take k) = .int .u64 x.1.h :: x.2 :: rbCells (t.take k) := by simp [rbCells]
      have h2 : rbCells (x :: t) = .int .u64 x.1.h :: x.2 :: rbCells t := by simp [rbCells]
      rw [h1, h2, ih]
      simp
theorem rbCells_drop (l : List RB) (k : Nat) : rbCells (l.drop k) = (rbCells l).drop (k * 2) := by
  have h1 := congrArg rbCells (List.take_append_drop k l)
  rw [rbCells_append, rbCells_take] at h1
  have h2 := List.take_append_drop (k * 2) (rbCells l)
  exact List.append_cancel_left (h1.trans h2.symm)
structure BlksAt (w : World) (v : Value) (l : List RB) : Prop where
  head : (v = .slice none 0 0 ∧ l = []) ∨ ∃ g c, v = .slice (some ⟨g, 0, none⟩) l.length c ∧ l.length ≤ c ∧ c ≤ maxLen ∧ ∀ j u, (rbCells l)[j]? = some u → w.cell? ⟨g, j, none⟩ = some u
  rows : ∀ x, x ∈ l → WordsAt w x.2 x.1.ws
theorem BlksAt.turn {w w' : World} {v : Value} {l : List RB} {F : List Nat} (h : BlksAt w v l) (ht : Frm.Turn F w w') (hv : ∀ k, v.ownBlock = some k → k ∉ F) (hr : ∀ x, x ∈ l → ∀ k, x.2.ownBlock = some k → k ∉ F) : BlksAt w' v l := by
  refine ⟨?_, fun x hx => (h.rows x hx).turn ht (hr x hx)⟩
  rcases h.head with ⟨h1, h2⟩ | ⟨g, c, rfl, hc, hm, h1⟩
  · exact .inl ⟨h1, h2⟩
  · exact .inr ⟨g, c, rfl, hc, hm, fun j u hu => ht.cell (h1 j u hu) (hv g rfl)⟩
theorem BlksAt.step {w w' : World} {v : Value} {l : List RB} (h : BlksAt w v l) (ht : Frm.Turn [] w w') : BlksAt w' v l := h.turn ht (by simp) (by simp)
theorem BlksAt.form {w : World} {v : Value} {l : List RB} (h : BlksAt w v l) : ∃ a c, v = .slice a l.length c := by
  rcases h.head with ⟨h1, rfl⟩ | ⟨g, c, h1, _⟩
  · exact ⟨none, 0, h1⟩
  · exact ⟨_, c, h1⟩
/-- What the document's arena is, cell by cell. -/
def refCells (A : Ar) (f0 f1 f2 f3 f4 f5 f6 f7 f8 : Int) (lv : Value) : Array Value :=
  #[.int .i64 A.cap, .int .i64 A.births, .int .i64 A.peak, .int .i64 A.faults, .int .u64 f0, .int .u64 f1, .int .u64 f2, .int .u64 f3, .int .u64 f4, .int .u64 f5, .int .u64 f6, .int .u64 f7, .int .u64 f8, lv,
    .int .i64 A.t.lays, .int .i64 A.t.frees, .int .i64 A.t.reads, .int .i64 A.t.writes, .int .i64 A.t.swaps, .int .i64 A.t.adds]
theorem used_take {l : List RB} {j : Nat} {y : RB} (h : l[j]? = some y) : used ((l.take (j + 1)).map Prod.fst) = used ((l.take j).map Prod.fst) + y.1.ws.length := by
  rw [List.take_add_one, h]
  simp [used_append, used]
theorem used_part (l : List RB) (j : Nat) : used ((l.take j).map Prod.fst) ≤ used (l.map Prod.fst) := used_sub ((List.take_sublist j l).map _)
set_option maxRecDepth 100000 in
set_option maxHeartbeats 2000000 in
theorem refUsed_any (A : Ar) (f0 f1 f2 f3 f4 f5 f6 f7 f8 : Int) (v : Value) (l : List RB) (w : World) (h : BlksAt w v l) (hl : l.length ≤ 70000) (hu : used (l.map Prod.fst) ≤ 200000) (hw : ∀ x, x ∈ l → x.1.ws.length ≤ 70000) :
    Calls Try.prog 46 #[.agg (refCells A f0 f1 f2 f3 f4 f5 f6 f7 f8 v)] w fun e w' => e = .returned (.int .i64 (used (l.map Prod.fst) : Int)) ∧ Frm.Turn [] w w' := by
  obtain ⟨a, c, rfl⟩ := h.form
  have H := Lib.hid h
  have HU := Lib.hid hu
  have HW := Lib.hid hw
  obtain ⟨n, HN⟩ : ∃ n, Hid (n = l.length) := ⟨_, Lib.hid rfl⟩
  rw [← HN.out] at hl ⊢
  clear h hu hw
  unfold refCells
  go_enter Try.func46, Try.ntmps46
  go_wp2_with fail
  have hT0 : Frm.Turn [] w (w.alloc (.cells (refCells A f0 f1 f2 f3 f4 f5 f6 f7 f8 (.slice a n c)) 32)) := (Frm.Turn.refl [] w).alloc _
  unfold refCells at hT0
  generalize w.alloc (.cells _ 32) = wq at hT0 ⊢
  have HT0 := Lib.hid hT0
  clear hT0
  go_loopw [3, 9] (fun s i wr => ∃ j : Nat, j ≤ n ∧ i = .int .i64 j ∧ s = .int .i64 (used ((l.take j).map Prod.fst) : Int) ∧ Frm.Turn [] w wr) (fun _ i _ => n - (intOf i).toNat)
  case atStart => exact ⟨0, Nat.zero_le _, rfl, by simp [used], HT0.out⟩
  case round =>
    obtain ⟨j, hj, rfl, rfl, hT⟩ := hrel
    by_cases hlt : j < n
    · obtain ⟨y, hy⟩ : ∃ y, l[j]? = some y := ⟨_, List.getElem?_eq_getElem (by rw [← HN.out]; exact hlt)⟩
      obtain ⟨g, rfl, hcell⟩ : ∃ g, a = some ⟨g, 0, none⟩ ∧ ∀ j u, (rbCells l)[j]? = some u → w.cell? ⟨g, j, none⟩ = some u := by
        rcases H.out.head with ⟨_, e2⟩ | ⟨g, c', e1, _, _, hc⟩
        · rw [e2] at hy; simp at hy
        · simp only [Value.slice.injEq] at e1
          exact ⟨g, e1.1, hc⟩
      obtain ⟨r1, r2⟩ := rbCells_get l j y hy
      have hcA := hT.cell (hcell _ _ r1) (by simp)
      have hcB := hT.cell (hcell _ _ r2) (by simp)
      obtain ⟨ya, yc, hyf⟩ : ∃ ya yc, y.2 = .slice ya y.1.ws.length yc := by
        rcases H.out.rows y (List.mem_of_getElem? hy) with ⟨e1, e2⟩ | ⟨a, c, e1, _⟩
        · exact ⟨none, 0, by rw [e1, e2]; rfl⟩
        · exact ⟨_, _, e1⟩
      rw [hyf] at hcB
      have HS := Lib.hid (used_take hy)
      have hp : used ((l.take j).map Prod.fst) ≤ 200000 := Nat.le_trans (used_part l j) HU.out
      have hyw := HW.out y (List.mem_of_getElem? hy)
      have HT := Lib.hid hT
      clear hT hy hcell r1 r2 hyf
      generalize used ((l.take j).map Prod.fst) = s at hp HS ⊢
      generalize y.1.ws.length = m at hyw hcB HS
      go_wp2
      refine ⟨⟨j + 1, by omega, by simp, by rw [HS.out]; simp, HT.out.alloc _⟩, ?_⟩
      simp [intOf]; omega
    · obtain rfl : j = n := by omega
      have HT := Lib.hid hT
      have e1 : l.take j = l := by rw [HN.out, List.take_length]
      rw [e1]
      clear hT e1
      go_wp2
      go_ret
      exact ⟨rfl, HT.out⟩
end Arn
end Go.Proofs.Ytfbnidjcimcfoaa
