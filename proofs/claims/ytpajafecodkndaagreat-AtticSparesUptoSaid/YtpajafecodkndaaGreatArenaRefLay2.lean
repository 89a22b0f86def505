/- Clone of an arena. -/
/- The document's arena in memory, by value: its list of blocks; how many words are used. -/
/- The document's Lay. -/
/- The document's Lay, where it lays. -/
import Derived.Test.YtpajafecodkndaaGreatArenaCopy
import Derived.Laws.Rows
import Derived.Deep.WholeRow
import Derived.Test.YtpajafecodkndaaGreatArenaSin
import Derived.RangeFuncRecord
import Derived.Laws.Tables
import Derived.Laws.AppendOwnNone
import Derived.Deep.RegionWith
import Derived.Deep.MidRow
import Derived.Deep.RegionHeld3
import Derived.Deep.CutBlock
set_option linter.unusedVariables false
set_option linter.unusedSimpArgs false
namespace Go.Proofs.YtpajafecodkndaaGreat
namespace Arn
open Go.RowKit Hp Go.Maps

/-- A new arena of the state A, all in new blocks. -/
def NewAr (w : World) (A : Ar) (e : Ending) (w' : World) : Prop := ∃ n M', e = .returned (.pointer (some ⟨n, 0, none⟩)) ∧ ArAt w' n M' A ∧ (∀ k, k ∈ M'.foot n → w.heap.size ≤ k) ∧ Frm.Turn [] w w'
theorem aclone_done {w w1 w2 w4 : World} {b n m' b' : Nat} {M : Mem} {A : Ar} {S : St} {B' : List Row} {F' : List Nat} (h : ArAt w b M A) (hm : S.most = 65535) (hu : ∀ k : Int, S.used k = hasN A.L k)
    (h1 : w1.heap[n]? = some (.cells (A.cells M).toArray 128)) (T01 : Frm.Turn [] w w1) (hn : w.heap.size ≤ n) (hC : Copied w1 m' B' A.L w2) (T34 : Frm.Turn [] (w2.setCell ⟨n, 11, none⟩ (.map (some m'))) w4)
    (hs : Lst.StockAt w4 b' F' S) (hf : ∀ k, k ∈ F' → w2.heap.size ≤ k) :
    NewAr w A (.returned (.pointer (some ⟨n, 0, none⟩))) (w4.setCell ⟨n, 12, none⟩ (.pointer (some ⟨b', 0, none⟩))) := by
  have hn1 : n < w1.heap.size := (Array.getElem?_eq_some_iff.1 h1).1
  have s01 := T01.size
  have s12 := hC.turn.size
  have hnm := hC.newm
  have T23 : Frm.Turn [n] w2 (w2.setCell ⟨n, 11, none⟩ (.map (some m'))) := (Frm.Turn.refl [n] w2).setCell (Or.inl (by simp)) _
  have T45 : Frm.Turn [n] w4 (w4.setCell ⟨n, 12, none⟩ (.pointer (some ⟨b', 0, none⟩))) := (Frm.Turn.refl [n] w4).setCell (Or.inl (by simp)) _
  have T25 : Frm.Turn [n] w2 (w4.setCell ⟨n, 12, none⟩ (.pointer (some ⟨b', 0, none⟩))) := (T23.trans T34 (by simp)).trans T45 (fun k hk => Or.inl hk)
  obtain ⟨D, hD⟩ := hC.map
  have hml : m' < w2.heap.size := hD.own.lt
  have hgl : ∀ k, k ∈ B'.map Row.g → w1.heap.size ≤ k ∧ k < w2.heap.size := fun k hk => ⟨hC.new k hk, by
    obtain ⟨r, hr, rfl⟩ := List.mem_map.1 hk
    obtain ⟨i, hi⟩ := List.getElem?_of_mem hr
    have hil : i < A.L.length := by have := (List.getElem?_eq_some_iff.1 hi).1; have := hC.rows.1; omega
    exact (World.ownsRow.lt (hC.rows.2 i r _ hi (List.getElem?_eq_getElem hil)).own r.g rfl).2⟩
  have hn12 : n ∉ B'.map Row.g := fun hc => by have := (hgl n hc).1; omega
  refine ⟨n, ⟨m', b', F', B'⟩, rfl, ⟨h.ok, ?_, ⟨S, hs.turn T45 (fun k hk => by simp; have := hf k hk; omega), hm, hu⟩, ⟨D, hD.turn T25 (by simp; omega)⟩, ⟨hC.rows.1, fun i r x hr hx => (hC.rows.2 i r x hr hx).turn T25 ?_⟩, ?_, fun k hk => ?_⟩, fun k hk => ?_, ?_⟩
  · have e2 := hC.turn.keep h1 (by simp)
    have e3 := Frm.heap_set w2 n 11 _ _ _ (.map (some m')) e2
    have e4 := T34.keep e3 (by simp)
    have e5 := Frm.heap_set w4 n 12 _ _ _ (.pointer (some ⟨b', 0, none⟩)) e4
    rw [e5]
    obtain ⟨f0, f1, f2, f3, f4, f5, f6, f7, f8, e⟩ := nine_of h.ok.nine
    simp [Ar.cells, u64s, e]
  · simp; intro e; rw [← e] at hn12; exact hn12 (List.mem_map.2 ⟨r, List.mem_of_getElem? hr, rfl⟩)
  · refine List.nodup_cons.2 ⟨fun hc => ?_, hC.apart⟩
    rcases List.mem_cons.1 hc with e | hc
    · change n = m' at e; omega
    · exact hn12 hc
  · have h2 := hf k hk
    simp only [List.mem_cons, not_or]
    exact ⟨by omega, by omega, fun hc => by have := (hgl k hc).2; omega⟩
  · simp only [Mem.foot, List.mem_cons, List.mem_append] at hk
    rcases hk with rfl | rfl | hk | hk
    · exact hn
    · omega
    · have := hf k hk; omega
    · have := (hgl k hk).1; omega
  · exact (T01.trans hC.turn (by simp)).trans T25 (fun k hk => by simp at hk; subst hk; exact Or.inr hn)

/-- A whole struct is stored into the block that was made last. -/
theorem wpList_store_new {P : Program} {ops : Array Oper} {rest : List Oper} {op : Oper} {a : Act} {w w0 : World} {Q : Exit → Act → World → Prop} (hgd : op.guard = none) (ty : TypeId) (x y : Operand) (ho : op.op = .store ty x y) (c c' : Array Value)
    (hw : w = w0.alloc (.cells c ty)) (hx : a.eval x = .pointer (some ⟨w0.heap.size, 0, none⟩)) (hy : a.eval y = .agg c') (hi : (P.info? ty).map (·.size) = some c'.size) (hs : c.size = c'.size) (h1 : c'.all (·.oneCell') = true)
    (h : wpList P ops Q rest (a.put op.dst undef) (w0.alloc (.cells c' ty))) : wpList P ops Q (op :: rest) a w := by
  refine wpList_plain hgd fun K hK => ?_
  subst hw
  unfold Oper.wp execOp
  simp only [ho, hx, hy, run_storeAt_new w0 ty c c' hi hs h1, Sem.run_bind, Sem.run_pure, Result.andThen_ok]
  exact hK _ _ h
theorem info_arena : (Tryz.prog.info? 128).map (·.size) = some 22 := by kernel_rfl
def structB (o : Option TypeDesc) : Bool := match o with | some (.struct _) => true | _ => false
theorem struct_of {o : Option TypeDesc} (h : structB o = true) : ∃ fs, o = some (.struct fs) := by
  unfold structB at h
  split at h
  · exact ⟨_, rfl⟩
  · cases h
theorem under_arena : structB (Tryz.prog.underlying 128) = true := by kernel_rfl
theorem cells_size {A : Ar} {M : Mem} (h : A.Ok) : (A.cells M).toArray.size = 22 := by simp [Ar.cells, u64s, h.nine]
theorem cells_one {A : Ar} {M : Mem} : (A.cells M).toArray.all (·.oneCell') = true := by
  rw [Array.all_eq_true_iff_forall_mem]
  intro v hv
  simp [Ar.cells, u64s] at hv
  rcases hv with rfl | rfl | ⟨x, _, rfl⟩ | hv
  · rfl
  · rfl
  · rfl
  · rcases hv with rfl | rfl | rfl | rfl | rfl | rfl | rfl | rfl | rfl | rfl | rfl <;> rfl

attribute [local go_sem ↓] Go.wp_at_zero Go.wp_at_succ
end Arn
end Go.Proofs.YtpajafecodkndaaGreat

set_option linter.unusedVariables false
set_option linter.unusedSimpArgs false
namespace Go.Proofs.YtpajafecodkndaaGreat
namespace Arn
open Go.RowKit Hp Go.Maps

abbrev RB := Blk × Value
def rbCells (l : List RB) : List Value := l.flatMap fun x => [.int .u64 x.1.h, x.2]
theorem rbCells_length (l : List RB) : (rbCells l).length = l.length * 2 := by
  induction l with
  | nil => rfl
  | cons x t ih => simp only [rbCells, List.flatMap_cons, List.length_append, List.length_cons, List.length_nil] at ih ⊢; omega
theorem rbCells_append (l r : List RB) : rbCells (l ++ r) = rbCells l ++ rbCells r := by simp [rbCells]
theorem rbCells_get : ∀ (l : List RB) (i : Nat) (y : RB), l[i]? = some y → (rbCells l)[i * 2]? = some (.int .u64 y.1.h) ∧ (rbCells l)[i * 2 + 1]? = some y.2 := by
  intro l
  induction l with
  | nil => intro i y h; simp at h
  | cons x t ih =>
    intro i y h
    cases i with
    | zero => simp at h; subst h; simp [rbCells]
    | succ i =>
      simp at h
      have := ih i y h
      have e : (i + 1) * 2 = i * 2 + 2 := by omega
      have e2 : (i + 1) * 2 + 1 = (i * 2 + 1) + 2 := by omega
      rw [e2, e]
      simpa [rbCells] using this
theorem rbCells_take (l : List RB) (k : Nat) : rbCells (l.take k) = (rbCells l).take (k * 2) := by
  induction l generalizing k with
  | nil => simp [rbCells]
  | cons x t ih =>
    cases k with
    | zero => simp [rbCells]
    | succ k =>
      have e : (k + 1) * 2 = k * 2 + 2 := by omega
      rw [e, List.take_succ_cons]
      show rbCells (x :: t.take k) = _
      have h1 : rbCells (x :: t.take k) = .int .u64 x.1.h :: x.2 :: rbCells (t.take k) := by simp [rbCells]
      have h2 : rbCells (x :: t) = .int .u64 x.1.h :: x.2 :: rbCells t := by simp [rbCells]
      rw [h1, h2, ih]
      simp
theorem rbCells_drop (l : List RB) (k : Nat) : rbCells (l.drop k) = (rbCells l).drop (k * 2) := by
  have h1 := congrArg rbCells (List.take_append_drop k l)
  rw [rbCells_append, rbCells_take] at h1
  have h2 := List.take_append_drop (k * 2) (rbCells l)
  exact List.append_cancel_left (h1.trans h2.symm)
structure BlksAt (w : World) (v : Value) (l : List RB) : Prop where
  head : (v = .slice none 0 0 ∧ l = []) ∨ ∃ g c, v = .slice (some ⟨g, 0, none⟩) l.length c ∧ l.length ≤ c ∧ c ≤ maxLen ∧ ∀ j u, (rbCells l)[j]? = some u → w.cell? ⟨g, j, none⟩ = some u
  rows : ∀ x, x ∈ l → WordsAt w x.2 x.1.ws
theorem BlksAt.turn {w w' : World} {v : Value} {l : List RB} {F : List Nat} (h : BlksAt w v l) (ht : Frm.Turn F w w') (hv : ∀ k, v.ownBlock = some k → k ∉ F) (hr : ∀ x, x ∈ l → ∀ k, x.2.ownBlock = some k → k ∉ F) : BlksAt w' v l := by
  refine ⟨?_, fun x hx => (h.rows x hx).turn ht (hr x hx)⟩
  rcases h.head with ⟨h1, h2⟩ | ⟨g, c, rfl, hc, hm, h1⟩
  · exact .inl ⟨h1, h2⟩
  · exact .inr ⟨g, c, rfl, hc, hm, fun j u hu => ht.cell (h1 j u hu) (hv g rfl)⟩
theorem BlksAt.step {w w' : World} {v : Value} {l : List RB} (h : BlksAt w v l) (ht : Frm.Turn [] w w') : BlksAt w' v l := h.turn ht (by simp) (by simp)
theorem BlksAt.form {w : World} {v : Value} {l : List RB} (h : BlksAt w v l) : ∃ a c, v = .slice a l.length c := by
  rcases h.head with ⟨h1, rfl⟩ | ⟨g, c, h1, _⟩
  · exact ⟨none, 0, h1⟩
  · exact ⟨_, c, h1⟩
/-- What the document's arena is, cell by cell. -/
def refCells (A : Ar) (f0 f1 f2 f3 f4 f5 f6 f7 f8 : Int) (lv : Value) : Array Value :=
  #[.int .i64 A.cap, .int .i64 A.births, .int .i64 A.peak, .int .i64 A.faults, .int .u64 f0, .int .u64 f1, .int .u64 f2, .int .u64 f3, .int .u64 f4, .int .u64 f5, .int .u64 f6, .int .u64 f7, .int .u64 f8, lv,
    .int .i64 A.t.lays, .int .i64 A.t.frees, .int .i64 A.t.reads, .int .i64 A.t.writes, .int .i64 A.t.swaps, .int .i64 A.t.adds]
theorem used_take {l : List RB} {j : Nat} {y : RB} (h : l[j]? = some y) : used ((l.take (j + 1)).map Prod.fst) = used ((l.take j).map Prod.fst) + y.1.ws.length := by
  rw [List.take_add_one, h]
  simp [used_append, used]
theorem used_part (l : List RB) (j : Nat) : used ((l.take j).map Prod.fst) ≤ used (l.map Prod.fst) := used_sub ((List.take_sublist j l).map _)
set_option maxRecDepth 100000 in
set_option maxHeartbeats 2000000 in
theorem refUsed_any (A : Ar) (f0 f1 f2 f3 f4 f5 f6 f7 f8 : Int) (v : Value) (l : List RB) (w : World) (h : BlksAt w v l) (hl : l.length ≤ 70000) (hu : used (l.map Prod.fst) ≤ 200000) (hw : ∀ x, x ∈ l → x.1.ws.length ≤ 70000) :
    Calls Tryz.prog 64 #[.agg (refCells A f0 f1 f2 f3 f4 f5 f6 f7 f8 v)] w fun e w' => e = .returned (.int .i64 (used (l.map Prod.fst) : Int)) ∧ Frm.Turn [] w w' := by
  obtain ⟨a, c, rfl⟩ := h.form
  have H := Lib.hid h
  have HU := Lib.hid hu
  have HW := Lib.hid hw
  obtain ⟨n, HN⟩ : ∃ n, Hid (n = l.length) := ⟨_, Lib.hid rfl⟩
  rw [← HN.out] at hl ⊢
  clear h hu hw
  unfold refCells
  go_enter Tryz.func64, Tryz.ntmps64
  go_wp2_with fail
  have hT0 : Frm.Turn [] w (w.alloc (.cells (refCells A f0 f1 f2 f3 f4 f5 f6 f7 f8 (.slice a n c)) 37)) := (Frm.Turn.refl [] w).alloc _
  unfold refCells at hT0
  generalize w.alloc (.cells _ 37) = wq at hT0 ⊢
  have HT0 := Lib.hid hT0
  clear hT0
  go_loopw [3, 9] (fun s i wr => ∃ j : Nat, j ≤ n ∧ i = .int .i64 j ∧ s = .int .i64 (used ((l.take j).map Prod.fst) : Int) ∧ Frm.Turn [] w wr) (fun _ i _ => n - (intOf i).toNat)
  case atStart => exact ⟨0, Nat.zero_le _, rfl, by simp [used], HT0.out⟩
  case round =>
    obtain ⟨j, hj, rfl, rfl, hT⟩ := hrel
    by_cases hlt : j < n
    · obtain ⟨y, hy⟩ : ∃ y, l[j]? = some y := ⟨_, List.getElem?_eq_getElem (by rw [← HN.out]; exact hlt)⟩
      obtain ⟨g, rfl, hcell⟩ : ∃ g, a = some ⟨g, 0, none⟩ ∧ ∀ j u, (rbCells l)[j]? = some u → w.cell? ⟨g, j, none⟩ = some u := by
        rcases H.out.head with ⟨_, e2⟩ | ⟨g, c', e1, _, _, hc⟩
        · rw [e2] at hy; simp at hy
        · simp only [Value.slice.injEq] at e1
          exact ⟨g, e1.1, hc⟩
      obtain ⟨r1, r2⟩ := rbCells_get l j y hy
      have hcA := hT.cell (hcell _ _ r1) (by simp)
      have hcB := hT.cell (hcell _ _ r2) (by simp)
      obtain ⟨ya, yc, hyf⟩ : ∃ ya yc, y.2 = .slice ya y.1.ws.length yc := by
        rcases H.out.rows y (List.mem_of_getElem? hy) with ⟨e1, e2⟩ | ⟨a, c, e1, _⟩
        · exact ⟨none, 0, by rw [e1, e2]; rfl⟩
        · exact ⟨_, _, e1⟩
      rw [hyf] at hcB
      have HS := Lib.hid (used_take hy)
      have hp : used ((l.take j).map Prod.fst) ≤ 200000 := Nat.le_trans (used_part l j) HU.out
      have hyw := HW.out y (List.mem_of_getElem? hy)
      have HT := Lib.hid hT
      clear hT hy hcell r1 r2 hyf
      generalize used ((l.take j).map Prod.fst) = s at hp HS ⊢
      generalize y.1.ws.length = m at hyw hcB HS
      go_wp2
      refine ⟨⟨j + 1, by omega, by simp, by rw [HS.out]; simp, HT.out.alloc _⟩, ?_⟩
      simp [intOf]; omega
    · obtain rfl : j = n := by omega
      have HT := Lib.hid hT
      have e1 : l.take j = l := by rw [HN.out, List.take_length]
      rw [e1]
      clear hT e1
      go_wp2
      go_ret
      exact ⟨rfl, HT.out⟩
end Arn
end Go.Proofs.YtpajafecodkndaaGreat

set_option linter.unusedVariables false
set_option linter.unusedSimpArgs false
namespace Go.Proofs.YtpajafecodkndaaGreat
namespace Arn
open Go.RowKit Hp Go.Maps

theorem refHandle_any (x y : Int) (w : World) (h1 : 1 ≤ x) (h2 : x ≤ 268435455) (h3 : 1 ≤ y) (h4 : y ≤ 65535) :
    Calls Tryz.prog 65 #[.int .u64 x, .int .u64 y] w fun e w' => e = .returned (.int .u64 (x * 65536 + y)) ∧ w = w' := by
  go_enter Tryz.func65, Tryz.ntmps65
  go_wp2
  go_ret
  exact ⟨rfl, rfl⟩
theorem info_refA : (Tryz.prog.info? 37).map (·.size) = some 20 := by kernel_rfl
theorem under_refA : structB (Tryz.prog.underlying 37) = true := by kernel_rfl
theorem setRow_turn {F : List Nat} {w0 w : World} (h : Frm.Turn F w0 w) {g : Nat} (hg : g ∈ F ∨ w0.heap.size ≤ g) (cs : Array Value) : Frm.Turn F w0 (w.setRow g cs) :=
  ⟨h.os, h.tape, h.output, by have := h.size; simp; omega, fun k hk hn => by
    have hne : g ≠ k := fun e => by subst e; rcases hg with h1 | h1; exact hn h1; omega
    rw [← h.block k hk hn]
    simp [World.setRow, Array.getElem?_modify, hne]⟩
theorem refCells_one (A : Ar) (f0 f1 f2 f3 f4 f5 f6 f7 f8 : Int) (a : Option Addr) (n c : Nat) : (refCells A f0 f1 f2 f3 f4 f5 f6 f7 f8 (.slice a n c)).all (·.oneCell') = true := by
  simp [refCells, Value.oneCell']
/-- The two boxes of the document's Lay: its own copy, and what is told. -/
structure RefIn (w : World) (bx bz : Nat) (CS : Array Value) (W : World) : Prop where
  own : W.heap[bx]? = some (.cells CS 37 (0, 0))
  res : ∃ Z : Array Value, Z.size = 20 ∧ W.heap[bz]? = some (.cells Z 37 (0, 0))
  ne : bx ≠ bz
  nx : w.heap.size ≤ bx
  nz : w.heap.size ≤ bz
  turn : Frm.Turn [] w W
theorem RefIn.start (w : World) (CS Z : Array Value) (hz : Z.size = 20) : RefIn w w.heap.size (w.heap.size + 1) CS ((w.alloc (.cells CS 37)).alloc (.cells Z 37)) := by
  refine ⟨(((Frm.Turn.refl [] _).alloc (.cells Z 37)).keep (World.alloc_heap_new w _) (by simp)), ⟨Z, hz, ?_⟩, by omega, Nat.le_refl _, by omega, ((Frm.Turn.refl [] w).alloc _).alloc _⟩
  have := World.alloc_heap_new (w.alloc (.cells CS 37)) (.cells Z 37)
  rwa [World.size_alloc] at this
theorem RefIn.step {w W W' : World} {bx bz : Nat} {CS : Array Value} (h : RefIn w bx bz CS W) {F : List Nat} (hT : Frm.Turn F W W') (hF : ∀ k, k ∈ F → w.heap.size ≤ k) (hx : bx ∉ F) (hz : bz ∉ F) : RefIn w bx bz CS W' := by
  obtain ⟨Z, z1, z2⟩ := h.res
  exact ⟨hT.keep h.own hx, ⟨Z, z1, hT.keep z2 hz⟩, h.ne, h.nx, h.nz, h.turn.trans hT (fun k hk => .inr (hF k hk))⟩
theorem RefIn.set {w W : World} {bx bz : Nat} {CS : Array Value} (h : RefIn w bx bz CS W) (i : Nat) (v : Value) : RefIn w bx bz (CS.setIfInBounds i v) (W.setCell ⟨bx, i, none⟩ v) := by
  obtain ⟨Z, z1, z2⟩ := h.res
  have hT : Frm.Turn [bx] W (W.setCell ⟨bx, i, none⟩ v) := (Frm.Turn.refl _ W).setCell (p := ⟨bx, i, none⟩) (.inl (by simp)) v
  exact ⟨Frm.heap_set W bx i CS _ _ v h.own, ⟨Z, z1, hT.keep z2 (by simp; exact fun e => h.ne e.symm)⟩, h.ne, h.nx, h.nz, h.turn.trans hT (fun k hk => by simp at hk; subst hk; exact .inr h.nx)⟩
theorem RefIn.cell {w W : World} {bx bz : Nat} {CS : Array Value} (h : RefIn w bx bz CS W) (i : Nat) : W.cell? ⟨bx, i, none⟩ = CS[i]? := Frm.cell_row W bx i CS _ _ h.own
theorem RefIn.thaw {w W : World} {bx bz : Nat} {CS : Array Value} (h : RefIn w bx bz CS W) (i : Nat) : W.frozen? ⟨bx, i, none⟩ = false := Frm.frozen_row W bx i CS _ h.own
theorem RefIn.told {w W : World} {bx bz : Nat} {CS : Array Value} (h : RefIn w bx bz CS W) (hsz : CS.size = 20) {fs : Array Field} (hfs : Tryz.prog.underlying 37 = some (.struct fs)) :
    (loadVar 37 ⟨bz, 0, none⟩).run Tryz.prog (W.setRow bz CS) = .ok (.agg CS) (W.setRow bz CS) := by
  obtain ⟨Z, z1, z2⟩ := h.res
  exact run_loadVar_row (W.setRow bz CS) bz _ _ CS (0, 0) (.struct fs) (setRow_heap W bz Z CS _ _ z2) hfs rfl (by rw [hsz]; exact info_refA)
theorem RefIn.end_ {w W : World} {bx bz : Nat} {CS : Array Value} (h : RefIn w bx bz CS W) : Frm.Turn [] w (W.setRow bz CS) := setRow_turn h.turn (.inr h.nz) CS
set_option maxRecDepth 100000 in
set_option maxHeartbeats 4000000 in
/-- The refusals. -/
theorem refLay_arg (CS : Array Value) (hsz : CS.size = 20) (h1 : CS.all (·.oneCell') = true) (w : World) (a : Option Addr) (n c : Nat) (hn : n < 1 ∨ 2048 < n) (hm : n ≤ 9223372036854775807) :
    Calls Tryz.prog 11 #[.agg CS, .slice a n c] w fun e w' => e = .returned (.tuple #[.agg CS, .int .u64 0, .int .i64 2]) ∧ Frm.Turn [] w w' := by
  obtain ⟨fs, hfs⟩ := struct_of under_refA
  have HSZ := Lib.hid hsz
  have HONE := Lib.hid h1
  have HFS := Lib.hid hfs
  clear h1 hfs
  go_enter Tryz.func11, Tryz.ntmps11
  go_upto_region 1 with fail
  have hin := RefIn.start w CS #[.int .i64 0, .int .i64 0, .int .i64 0, .int .i64 0, .int .u64 0, .int .u64 0, .int .u64 0, .int .u64 0, .int .u64 0, .int .u64 0, .int .u64 0, .int .u64 0, .int .u64 0, .slice none 0 0, .int .i64 0, .int .i64 0, .int .i64 0, .int .i64 0, .int .i64 0, .int .i64 0] rfl
  obtain ⟨bx, Hx⟩ : ∃ bx, Hid (bx = w.heap.size) := ⟨_, Lib.hid rfl⟩
  obtain ⟨bz, Hz⟩ : ∃ bz, Hid (bz = w.heap.size + 1) := ⟨_, Lib.hid rfl⟩
  rw [← Hz.out, ← Hx.out] at hin ⊢
  generalize (w.alloc (.cells CS 37)).alloc _ = W1 at hin ⊢
  have HIN := Lib.hid hin
  obtain ⟨Z, z1, z2⟩ := hin.res
  have HZ1 := Lib.hid z1
  have HZ2 := Lib.hid z2
  have hld := hin.told hsz HFS.out
  clear hin z1 z2 hsz
  by_cases h0 : n = 0
  · have h0' : ((n : Int) == 0) = true := by simp [h0]
    have H0 := Lib.hid h0
    clear h0 hn
    go_wp2_with (first
      | (refine wpList_load_row rfl 37 (.tmp 2) rfl bx rfl 37 CS (0, 0) (.struct fs) HIN.out.own HFS.out rfl (by rw [HSZ.out]; exact info_refA) ?_)
      | (refine wpList_store_row rfl 37 (.tmp 4) (.tmp 19) rfl bz CS rfl rfl 37 Z HZ2.out (by rw [HSZ.out]; exact info_refA) (by rw [HZ1.out, HSZ.out]) HONE.out ?_))
    exact bodyPost_ret (v := .tuple #[.agg CS, .int .u64 0, .int .i64 2]) (by simp [results, Tryz.results11, asAddr, hld]) rfl ⟨rfl, HIN.out.end_⟩
  · have h0' : ((n : Int) == 0) = false := by simpa using h0
    have h2 : 2048 < n := by omega
    clear h0 hn
    go_wp2_with (first
      | (refine wpList_load_row rfl 37 (.tmp 2) rfl bx rfl 37 CS (0, 0) (.struct fs) HIN.out.own HFS.out rfl (by rw [HSZ.out]; exact info_refA) ?_)
      | (refine wpList_store_row rfl 37 (.tmp 4) (.tmp 19) rfl bz CS rfl rfl 37 Z HZ2.out (by rw [HSZ.out]; exact info_refA) (by rw [HZ1.out, HSZ.out]) HONE.out ?_))
    exact bodyPost_ret (v := .tuple #[.agg CS, .int .u64 0, .int .i64 2]) (by simp [results, Tryz.results11, asAddr, hld]) rfl ⟨rfl, HIN.out.end_⟩
/-- A whole struct is loaded, in a region that draws its order. -/
theorem step_load_row {P : Program} {ops : Array Oper} {o : Oper} {a : Act} {w : World} {K : Act → World → Prop} {Q : Exit → Act → World → Prop} {E : Prop}
    (hg : o.guard = none) (ty : TypeId) (x : Operand) (hop : o.op = .load ty x) (g : Nat) (hx : a.eval x = .pointer (some ⟨g, 0, none⟩)) (t : TypeId) (cs : Array Value) (fr : Nat × Nat) (d : TypeDesc) (hh : w.heap[g]? = some (.cells cs t fr))
    (hu : P.underlying ty = some d) (hd : (match d with | .struct _ | .array _ _ => true | _ => false) = true) (hi : (P.info? ty).map (·.size) = some cs.size) (hK : K (a.put o.dst (.agg cs)) w) :
    if Region.wanted o (yielded ops a.tmps) = true then Oper.wp P o a w K Q else E := by
  have hw : Region.wanted o (yielded ops a.tmps) = true := by simp [Region.wanted, hg]
  rw [if_pos hw]
  exact wp_load_row ty x hop g hx t cs fr d hh hu hd hi hK
/-- The cells of the copy. -/
structure RefCell (A : Ar) (f0 f1 f2 f3 f4 f5 f6 f7 f8 : Int) (v : Value) (bx : Nat) (W : World) : Prop where
  c0 : W.cell? ⟨bx, 0, none⟩ = some (.int .i64 A.cap)
  c1 : W.cell? ⟨bx, 1, none⟩ = some (.int .i64 A.births)
  c2 : W.cell? ⟨bx, 2, none⟩ = some (.int .i64 A.peak)
  c3 : W.cell? ⟨bx, 3, none⟩ = some (.int .i64 A.faults)
  c4 : W.cell? ⟨bx, 4, none⟩ = some (.int .u64 f0)
  c5 : W.cell? ⟨bx, 5, none⟩ = some (.int .u64 f1)
  c6 : W.cell? ⟨bx, 6, none⟩ = some (.int .u64 f2)
  c7 : W.cell? ⟨bx, 7, none⟩ = some (.int .u64 f3)
  c8 : W.cell? ⟨bx, 8, none⟩ = some (.int .u64 f4)
  c9 : W.cell? ⟨bx, 9, none⟩ = some (.int .u64 f5)
  c10 : W.cell? ⟨bx, 10, none⟩ = some (.int .u64 f6)
  c11 : W.cell? ⟨bx, 11, none⟩ = some (.int .u64 f7)
  c12 : W.cell? ⟨bx, 12, none⟩ = some (.int .u64 f8)
  c13 : W.cell? ⟨bx, 13, none⟩ = some v
  c14 : W.cell? ⟨bx, 14, none⟩ = some (.int .i64 A.t.lays)
  c15 : W.cell? ⟨bx, 15, none⟩ = some (.int .i64 A.t.frees)
  c16 : W.cell? ⟨bx, 16, none⟩ = some (.int .i64 A.t.reads)
  c17 : W.cell? ⟨bx, 17, none⟩ = some (.int .i64 A.t.writes)
  c18 : W.cell? ⟨bx, 18, none⟩ = some (.int .i64 A.t.swaps)
  c19 : W.cell? ⟨bx, 19, none⟩ = some (.int .i64 A.t.adds)
theorem RefIn.cells {w W : World} {bx bz : Nat} {A : Ar} {f0 f1 f2 f3 f4 f5 f6 f7 f8 : Int} {v : Value} (h : RefIn w bx bz (refCells A f0 f1 f2 f3 f4 f5 f6 f7 f8 v) W) : RefCell A f0 f1 f2 f3 f4 f5 f6 f7 f8 v bx W := by
  constructor <;> (rw [h.cell]; rfl)
set_option maxRecDepth 100000 in
set_option maxHeartbeats 4000000 in
theorem refLay_room (A : Ar) (f0 f1 f2 f3 f4 f5 f6 f7 f8 : Int) (v : Value) (l : List RB) (w : World) (h : BlksAt w v l) (hl : l.length ≤ 70000) (hu : used (l.map Prod.fst) ≤ 200000) (hlw : ∀ x, x ∈ l → x.1.ws.length ≤ 70000)
    (a : Option Addr) (n c : Nat) (h1 : 1 ≤ n) (h2 : n ≤ 2048) (hcap : A.cap ≤ 100000) (hr : A.cap < used (l.map Prod.fst) + n) :
    Calls Tryz.prog 11 #[.agg (refCells A f0 f1 f2 f3 f4 f5 f6 f7 f8 v), .slice a n c] w fun e w' => e = .returned (.tuple #[.agg (refCells A f0 f1 f2 f3 f4 f5 f6 f7 f8 v), .int .u64 0, .int .i64 20]) ∧ Frm.Turn [] w w' := by
  obtain ⟨va, vc, rfl⟩ := h.form
  obtain ⟨fs, hfs⟩ := struct_of under_refA
  have HU := Lib.hid (fun W (hT : Frm.Turn [] w W) => refUsed_any A f0 f1 f2 f3 f4 f5 f6 f7 f8 _ l W (h.step hT) hl hu hlw)
  obtain ⟨q, HQ⟩ : ∃ q, Hid (q = l.length) := ⟨_, Lib.hid rfl⟩
  obtain ⟨s, HSs⟩ : ∃ s, Hid (s = used (l.map Prod.fst)) := ⟨_, Lib.hid rfl⟩
  rw [← HSs.out] at HU hu hr
  rw [← HQ.out] at HU hl ⊢
  obtain ⟨CS, HCS⟩ : ∃ CS, Hid (CS = refCells A f0 f1 f2 f3 f4 f5 f6 f7 f8 (.slice va q vc)) := ⟨_, Lib.hid rfl⟩
  have HSZ : Hid (CS.size = 20) := Lib.hid (by rw [HCS.out]; rfl)
  have HONE : Hid (CS.all (·.oneCell') = true) := Lib.hid (by rw [HCS.out]; exact refCells_one _ _ _ _ _ _ _ _ _ _ _ _ _)
  have HFS := Lib.hid hfs
  rw [← HCS.out]
  have HUU := Lib.hid HU.out
  rw [← HCS.out] at HUU
  clear h hfs hlw HU
  go_enter Tryz.func11, Tryz.ntmps11
  go_upto_region 1 with fail
  have hin := RefIn.start w CS #[.int .i64 0, .int .i64 0, .int .i64 0, .int .i64 0, .int .u64 0, .int .u64 0, .int .u64 0, .int .u64 0, .int .u64 0, .int .u64 0, .int .u64 0, .int .u64 0, .int .u64 0, .slice none 0 0, .int .i64 0, .int .i64 0, .int .i64 0, .int .i64 0, .int .i64 0, .int .i64 0] rfl
  obtain ⟨bx, Hx⟩ : ∃ bx, Hid (bx = w.heap.size) := ⟨_, Lib.hid rfl⟩
  obtain ⟨bz, Hz⟩ : ∃ bz, Hid (bz = w.heap.size + 1) := ⟨_, Lib.hid rfl⟩
  rw [← Hz.out, ← Hx.out] at hin ⊢
  generalize (w.alloc (.cells CS 37)).alloc _ = W1 at hin ⊢
  have HIN := Lib.hid hin
  have h0' : ((n : Int) == 0) = false := by simp; omega
  have c0 := (RefIn.cells (by have := hin; rw [HCS.out] at this; exact this)).c0
  have hr1 : decide ((A.cap : Int) < (s : Int) + (n : Int)) = true := by simp; omega
  have ws : IntKind.i64.wrap ((s : Int) + (n : Int)) = (s : Int) + (n : Int) := by simp only [IntKind.wrap_i64]; omega
  have HT1 := Lib.hid hin.turn
  have HRR : Hid (∀ W', Frm.Turn [] W1 W' → W'.rangeAt bx 0 CS.toList) := Lib.hid fun W' hT j u hu => by
    rw [Nat.zero_add, (HIN.out.step hT (by simp) (by simp) (by simp)).cell j]
    simpa using hu
  have HRG := Lib.hid (HRR.out W1 (Frm.Turn.refl [] _))
  have HI20 : Hid ((Tryz.prog.info? 37).map (·.size) = some CS.toList.length) := Lib.hid (by rw [Array.length_toList, HSZ.out]; exact info_refA)
  clear hin
  go_upto_region 3 with fail
  go_cut [27] (fun s27 W => s27 = .bool true ∧ Frm.Turn [] W1 W)
  case first =>
    refine wp_region_held_drew (S := fun w' => w'.rangeAt bx 0 CS.toList ∧ w'.cell? ⟨bx, 0, none⟩ = some (.int .i64 A.cap)) (by kernel_rfl) ?_ (fun hHeld => ?_)
    · exact ⟨HRG.out, c0⟩
    refine wpAnyH_take (i := 0) (v := _) rfl (by kernel_rfl) (by kernel_rfl) (by kernel_rfl) (fun _ _ _ h => h)
          (yieldsIf_load_mid (by rfl) _ _ rfl bx 0 rfl CS.toList _ (fun w hw => hw.1) HFS.out rfl HI20.out) (by assumption) ?_
    simp only [Act.put, List.setIfInBounds_toArray, List.set_cons_zero, List.set_cons_succ, Array.toArray_toList]
    refine wpAnyH_take (i := 2) (v := ?_) rfl (by kernel_rfl) (by kernel_rfl) (by kernel_rfl) (fun _ _ _ h => h) (Or.inl ⟨by rfl, ?_⟩) (by assumption) ?_
    rotate_left
    · (intro w hSw; (try dsimp only at hSw); go_simp; try with_reducible rfl)
    simp only [Act.put, List.getElem_toArray, List.getElem_cons_succ, List.getElem_cons_zero, List.setIfInBounds_toArray, List.set_cons_zero, List.set_cons_succ]
    refine wpAnyH_take (i := 3) (v := ?_) rfl (by kernel_rfl) (by kernel_rfl) (by kernel_rfl) (fun _ _ _ h => h) (Or.inl ⟨by rfl, ?_⟩) (by assumption) ?_
    rotate_left
    · (intro w hSw; (try dsimp only at hSw); go_simp; try with_reducible rfl)
    simp only [Act.put, List.getElem_toArray, List.getElem_cons_succ, List.getElem_cons_zero, List.setIfInBounds_toArray, List.set_cons_zero, List.set_cons_succ]
    refine wpAnyH_take (i := 5) (v := ?_) rfl (by kernel_rfl) (by kernel_rfl) (by kernel_rfl) (fun _ _ _ h => h) (Or.inl ⟨by rfl, ?_⟩) (by assumption) ?_
    rotate_left
    · (intro w hSw; (try dsimp only at hSw); go_simp; try with_reducible rfl)
    simp only [Act.put, List.getElem_toArray, List.getElem_cons_succ, List.getElem_cons_zero, List.setIfInBounds_toArray, List.set_cons_zero, List.set_cons_succ]
    refine wpAnyH_take (i := 6) (v := ?_) rfl (by kernel_rfl) (by kernel_rfl) (by kernel_rfl) (fun _ _ _ h => h) (Or.inl ⟨by rfl, ?_⟩) (by assumption) ?_
    rotate_left
    · (intro w hSw; (try dsimp only at hSw); go_simp; try with_reducible rfl)
    simp only [Act.put, List.getElem_toArray, List.getElem_cons_succ, List.getElem_cons_zero, List.setIfInBounds_toArray, List.set_cons_zero, List.set_cons_succ]
    refine wpAnyH_ready (rs := [1]) (by kernel_rfl) (by simp) ?_
    refine AllReadyH.cons rfl (fun K hK => ?_) AllReadyH.nil
    simp only [List.getElem_toArray, List.getElem_cons_succ, List.getElem_cons_zero]
    go_simp
    have HK := Lib.hid hK
    clear hK
    go_at_call 64; (with_reducible refine (HUU.out _ (HT1.out.drew)).mono ?_); rintro e w2 ⟨rfl, hT⟩; have HT2 : Hid (Frm.Turn [] W1 w2) := Lib.hid (((Frm.Turn.refl [] W1).drew).trans hT (by simp)); clear hT
    go_wp2_with fail
    refine HK.out _ _ ⟨HRR.out _ HT2.out, HT2.out.cell c0 (by simp)⟩ (fun hHeld => ?_)
    clear HK K
    try simp only [Act.put, List.getElem_toArray, List.getElem_cons_succ, List.getElem_cons_zero, List.setIfInBounds_toArray, List.set_cons_zero, List.set_cons_succ]
    refine wpAnyH_take (i := 4) (v := ?_) rfl (by kernel_rfl) (by kernel_rfl) (by kernel_rfl) (fun _ _ _ h => h) (Or.inl ⟨by rfl, ?_⟩) (by assumption) ?_
    rotate_left
    · (intro w hSw; (try dsimp only at hSw); go_simp; try with_reducible rfl)
    simp only [Act.put, List.getElem_toArray, List.getElem_cons_succ, List.getElem_cons_zero, List.setIfInBounds_toArray, List.set_cons_zero, List.set_cons_succ]
    refine wpAnyH_take (i := 7) (v := ?_) rfl (by kernel_rfl) (by kernel_rfl) (by kernel_rfl) (fun _ _ _ h => h) (Or.inl ⟨by rfl, ?_⟩) (by assumption) ?_
    rotate_left
    · (intro w hSw; (try dsimp only at hSw); go_simp; try with_reducible rfl)
    simp only [Act.put, List.getElem_toArray, List.getElem_cons_succ, List.getElem_cons_zero, List.setIfInBounds_toArray, List.set_cons_zero, List.set_cons_succ]
    refine wpAnyH_done (by kernel_rfl) ?_ _
    go_wp2_with fail
    go_meet
    exact ⟨rfl, HT2.out⟩
  case rest =>
    obtain ⟨rfl, hT⟩ := hcut
    have hin2 := HIN.out.step hT (by simp) (by simp) (by simp)
    have HIN2 := Lib.hid hin2
    obtain ⟨Z, z1, z2⟩ := hin2.res
    have HZ1 := Lib.hid z1
    have HZ2 := Lib.hid z2
    have hld := hin2.told HSZ.out HFS.out
    clear hin2 z1 z2 hT c0 hr1 ws
    go_wp2_with (first
      | (refine wpList_load_row rfl 37 (.tmp 2) rfl bx rfl 37 CS (0, 0) (.struct fs) HIN2.out.own HFS.out rfl (by rw [HSZ.out]; exact info_refA) ?_)
      | (refine wpList_store_row rfl 37 (.tmp 4) (.tmp 28) rfl bz CS rfl rfl 37 Z HZ2.out (by rw [HSZ.out]; exact info_refA) (by rw [HZ1.out, HSZ.out]) HONE.out ?_))
    exact bodyPost_ret (v := .tuple #[.agg CS, .int .u64 0, .int .i64 20]) (by simp [results, Tryz.results11, asAddr, hld]) rfl ⟨rfl, HIN2.out.end_⟩
end Arn
end Go.Proofs.YtpajafecodkndaaGreat

set_option linter.unusedVariables false
set_option linter.unusedSimpArgs false
namespace Go.Proofs.YtpajafecodkndaaGreat
namespace Arn
open Go.RowKit Hp Go.Maps

/-- What is appended: nothing at all, or cells that lie in a row. -/
def SrcAt (w : World) (xv : Value) (m size : Nat) (news : List Value) : Prop := (xv = .slice none 0 0 ∧ m = 0 ∧ news = []) ∨ ∃ ad c, xv = .slice (some ad) m c ∧ news.length = m * size ∧ ∀ j u, news[j]? = some u → w.cell? (ad.add j) = some u
theorem wpList_append_src {P : Program} {w : World} {ops : Array Oper} {rest : List Oper} {o : Oper} {a : Act} {Q : Exit → Act → World → Prop} (hgd : o.guard = none) (s x : Operand) (t : TypeId)
    (ho : o.op = .call { callee := .builtin .append, args := #[s, x], argTypes := #[t, t] })
    (e : TypeId) (i : TypeInfo) (z : Value) (size bytes : Nat) (ht : P.underlying t = some (.slice e)) (hi : P.info? e = some i) (hz : i.zero = some z)
    (hsize : i.size = size) (hby : i.bytes = bytes) (hzs : z.cells.size = size) (hsz : 0 < size)
    (v : Value) (n : Nat) (xs : List Value) (hs : a.eval s = v) (hown : w.ownsRow 0 e size v n xs)
    (xv : Value) (m : Nat) (news : List Value) (hx : a.eval x = xv) (hsrc : SrcAt w xv m size news) (h1 : ∀ u ∈ news, u.oneCell' = true)
    (h63 : n + m ≤ maxLen) (hbytes : (n + m) * bytes ≤ 140737488355328)
    (h : ∀ v' w', w'.ownsRow 0 e size v' (n + m) (xs ++ news) → w.grownBy w' v.ownBlock → (v'.ownBlock = v.ownBlock ∨ v'.ownBlock = some w.heap.size) → wpList P ops Q rest (a.put o.dst v') w') :
    wpList P ops Q (o :: rest) a w := by
  rcases hsrc with ⟨rfl, rfl, rfl⟩ | ⟨ad, c, rfl, hl, hnews⟩
  · exact wpList_append_own_none hgd s x t ho 0 e i size ht hi v n xs hs hown hx (h v w (by simpa using hown) (World.grownBy.refl w _) (.inl rfl))
  · exact wpList_append_own_at _ hgd s x t ho 0 e i z size bytes ht hi hz hsize hby hzs hsz v n xs hs hown ad m c news hx hl hnews h1 h63 hbytes (Nat.zero_le _) (fun v' w' a1 a2 _ a3 => h v' w' a1 a2 a3)
theorem add_off (g o k : Nat) : (⟨g, o, none⟩ : Addr).add k = ⟨g, o + k, none⟩ := by
  unfold Addr.add; split
  · rename_i e; simp [e]
  · simp
theorem size_blk (w : World) : (sizeOf 135).run Tryz.prog w = .ok 2 w := by kernel_rfl
theorem run_head (g : Option Nat) (q d vc : Nat) (hd : d ≤ vc) (hv : vc ≤ 9223372036854775807) (w : World) :
    (Instr.slice 33 (.slice (g.map fun k => ⟨k, 0, none⟩) q vc) none (some (.int .i64 d)) none).run Tryz.prog w = .ok (.slice (g.map fun k => ⟨k, 0, none⟩) d vc) w := by
  have hu := run_underlying under_blks w
  have hs := size_blk
  have h1 : (d : Int) ≤ (vc : Int) := by omega
  cases g with
  | none =>
    by_cases h : vc = 0
    · simp [Instr.slice, Instr.sliceBounds, Instr.sliceBound, go_sem, hu, hs, h1, h, hd, asIntOf]
      omega
    · simp [Instr.slice, Instr.sliceBounds, Instr.sliceBound, go_sem, hu, hs, h1, h, hd, asIntOf]
  | some k =>
    by_cases h : vc = 0
    · subst h
      obtain rfl : d = 0 := by omega
      simp [Instr.slice, Instr.sliceBounds, Instr.sliceBound, go_sem, hu, hs, asIntOf]
    · simp [Instr.slice, Instr.sliceBounds, Instr.sliceBound, go_sem, hu, hs, h1, h, hd, asIntOf, add_off]
theorem run_tail2 (g : Option Nat) (q d vc : Nat) (hd : d ≤ q) (w : World) :
    (Instr.slice 33 (.slice (g.map fun k => ⟨k, 0, none⟩) q vc) (some (.int .i64 d)) none none).run Tryz.prog w = .ok (.slice (g.map fun k => ⟨k, if vc = d then 0 else d * 2, none⟩) (q - d) (vc - d)) w := by
  have hu := run_underlying under_blks w
  have hs := size_blk
  have h1 : (d : Int) ≤ (q : Int) := by omega
  cases g with
  | none => by_cases h : vc = d <;> simp [Instr.slice, Instr.sliceBounds, Instr.sliceBound, go_sem, hu, hs, h1, h, hd, asIntOf]
  | some k => by_cases h : vc = d <;> simp [Instr.slice, Instr.sliceBounds, Instr.sliceBound, go_sem, hu, hs, h1, h, hd, asIntOf, add_off]
theorem rowT {w w' : World} {base : Nat} {e : TypeId} {size n : Nat} {v : Value} {xs : List Value} {F : List Nat} (h : w.ownsRow base e size v n xs) (ht : Frm.Turn F w w') (hn : ∀ k, v.ownBlock = some k → k ∉ F) : w'.ownsRow base e size v n xs := by
  refine ⟨h.1, h.2.imp id ?_⟩
  rintro ⟨g, cap, cur, rfl, h1, h2, h3⟩
  exact ⟨g, cap, cur, rfl, h1, ht.keep h2 (hn g rfl), h3⟩
theorem rb_one (l : List RB) (h : ∀ x, x ∈ l → ∃ a n c, x.2 = .slice a n c) : ∀ u ∈ rbCells l, u.oneCell' = true := by
  intro u hu
  simp only [rbCells, List.mem_flatMap] at hu
  obtain ⟨x, hx, hxu⟩ := hu
  obtain ⟨a, n, c, e⟩ := h x hx
  simp at hxu
  rcases hxu with rfl | rfl
  · rfl
  · rw [e]; rfl
theorem BlksAt.slices {w : World} {v : Value} {l : List RB} (h : BlksAt w v l) : ∀ x, x ∈ l → ∃ a n c, x.2 = .slice a n c := fun x hx => by
  rcases h.rows x hx with ⟨e, _⟩ | ⟨a, c, e, _⟩
  · exact ⟨_, _, _, e⟩
  · exact ⟨_, _, _, e⟩
/-- The two parts of a list of blocks, as they are appended. -/
theorem BlksAt.parts {w : World} {v : Value} {l : List RB} {d : Nat} (h : BlksAt w v l) (hd : d ≤ l.length) : ∃ (g : Option Nat) (vc : Nat), v = .slice (g.map fun k => ⟨k, 0, none⟩) l.length vc ∧ l.length ≤ vc ∧ vc ≤ maxLen ∧
    ∀ w', Frm.Turn [] w w' → SrcAt w' (.slice (g.map fun k => ⟨k, 0, none⟩) d vc) d 2 (rbCells (l.take d)) ∧ SrcAt w' (.slice (g.map fun k => ⟨k, if vc = d then 0 else d * 2, none⟩) (l.length - d) (vc - d)) (l.length - d) 2 (rbCells (l.drop d)) := by
  rcases h.head with ⟨rfl, rfl⟩ | ⟨g, c, rfl, hc, hm, hcell⟩
  · simp at hd; subst hd
    exact ⟨none, 0, rfl, by simp, by simp, fun w' hT => ⟨.inl ⟨rfl, rfl, rfl⟩, .inl ⟨rfl, rfl, rfl⟩⟩⟩
  · refine ⟨some g, c, rfl, hc, hm, fun w' hT => ⟨.inr ⟨⟨g, 0, none⟩, c, rfl, by rw [rbCells_length, List.length_take, Nat.min_eq_left hd], fun j u hu => ?_⟩, .inr ⟨_, c - d, rfl, by rw [rbCells_length, List.length_drop], fun j u hu => ?_⟩⟩⟩
    · rw [rbCells_take] at hu
      rw [add_off, Nat.zero_add]
      refine hT.cell (hcell j u ?_) (by simp)
      rw [List.getElem?_take] at hu
      split at hu
      · exact hu
      · cases hu
    · have hlen : d < l.length := by
        have := (List.getElem?_eq_some_iff.1 hu).1
        rw [rbCells_length, List.length_drop] at this
        omega
      rw [rbCells_drop, List.getElem?_drop] at hu
      rw [add_off, if_neg (by omega)]
      exact hT.cell (hcell _ u hu) (by simp)
theorem RefIn.lt {w W : World} {bx bz : Nat} {CS : Array Value} (h : RefIn w bx bz CS W) : bx < W.heap.size ∧ bz < W.heap.size := by
  obtain ⟨Z, _, z2⟩ := h.res
  exact ⟨(Array.getElem?_eq_some_iff.1 h.own).1, (Array.getElem?_eq_some_iff.1 z2).1⟩
/-- A fresh row has grown: nothing older has turned, and it lies among what is new. -/
theorem fresh_grown {W W' : World} {ob : Obj} {v : Value} (hg : (W.alloc ob).grownBy W' (Value.slice (some ⟨W.heap.size, 0, none⟩) 0 0).ownBlock) : Frm.Turn [] W W' :=
  ((Frm.Turn.refl [] W).alloc _).trans (Frm.Turn.of_grown hg) (fun k hk => .inr (by simp [Value.ownBlock] at hk; omega))
theorem fresh_own {W : World} {ob : Obj} {v : Value} (hl : v.ownBlock = (Value.slice (some ⟨W.heap.size, 0, none⟩) 0 0).ownBlock ∨ v.ownBlock = some (W.alloc ob).heap.size) : ∀ k, v.ownBlock = some k → W.heap.size ≤ k := fun k hk => by
  rcases hl with e | e <;> rw [e] at hk <;> simp [Value.ownBlock] at hk <;> omega
theorem src_one (W : World) (h : Int) (v : Value) : SrcAt (W.alloc (.cells #[.int .u64 h, v] 135)) (.slice (some ⟨W.heap.size, 0, none⟩) 1 1) 1 2 [.int .u64 h, v] := by
  refine .inr ⟨⟨W.heap.size, 0, none⟩, 1, rfl, rfl, fun j u hu => ?_⟩
  rw [add_off, Nat.zero_add, Frm.cell_row _ _ _ _ _ _ (World.alloc_heap_new W _)]
  simpa using hu
theorem own_lt {w : World} {base : Nat} {e : TypeId} {size n : Nat} {v : Value} {xs : List Value} (h : w.ownsRow base e size v n xs) : ∀ k, v.ownBlock = some k → k < w.heap.size := fun k hk => by
  rcases h.2 with ⟨rfl, _⟩ | ⟨g, cap, cur, rfl, hb, hg, _⟩
  · simp [Value.ownBlock] at hk
  · simp [Value.ownBlock] at hk
    subst hk
    exact (Array.getElem?_eq_some_iff.1 hg).1
/-- The list with one block put in, rows and all. -/
theorem blks_ins {w W w6 : World} {v v4 v2 : Value} {l : List RB} {d : Nat} {x : Blk} {F : List Nat} (h : BlksAt w v l) (hT : Frm.Turn [] w W) (hd : d ≤ l.length)
    (ho : w6.ownsRow 0 135 2 v4 (d + 1 + (l.length - d)) (rbCells (l.take d) ++ [.int .u64 x.h, v2] ++ rbCells (l.drop d))) (h6 : Frm.Turn F w6 W) (h4 : ∀ k, v4.ownBlock = some k → k ∉ F) (hw : WordsAt W v2 x.ws) :
    BlksAt W v4 (l.take d ++ (x, v2) :: l.drop d) := by
  have ho' := rowT ho h6 h4
  have hlen : (l.take d ++ (x, v2) :: l.drop d).length = d + 1 + (l.length - d) := by simp; omega
  have hcs : rbCells (l.take d ++ (x, v2) :: l.drop d) = rbCells (l.take d) ++ [.int .u64 x.h, v2] ++ rbCells (l.drop d) := by simp [rbCells]
  refine ⟨.inr ?_, fun y hy => ?_⟩
  · rw [hlen, hcs]
    rcases ho'.2 with ⟨_, h0⟩ | ⟨g, cap, cur, rfl, hb, hg, hnc, hcm, _⟩
    · omega
    · refine ⟨g, cap, rfl, hnc, hcm, fun j u hu => ?_⟩
      have := World.ownsRow.cells ho' rfl j u hu
      rwa [add_off, Nat.zero_add] at this
  · simp only [List.mem_append, List.mem_cons] at hy
    rcases hy with hy | rfl | hy
    · exact (h.rows y (List.mem_of_mem_take hy)).turn hT (by simp)
    · exact hw
    · exact (h.rows y (List.mem_of_mem_drop hy)).turn hT (by simp)
/-- What Lay makes of an arena, at a peak p. -/
def Ar.laid (A : Ar) (ws : List Int) (p : Nat) : Ar := { A with births := A.births + 1, L := A.L.take (lead 0 A.L) ++ ⟨layH A, ws⟩ :: A.L.drop (lead 0 A.L), peak := p, t := { A.t with lays := A.t.lays + 1 } }
theorem laid_cells (A : Ar) (ws : List Int) (f0 f1 f2 f3 f4 f5 f6 f7 f8 : Int) (v v' : Value) : (((refCells A f0 f1 f2 f3 f4 f5 f6 f7 f8 v).setIfInBounds 1 (.int .i64 ((A.births : Int) + 1))).setIfInBounds 13 v').setIfInBounds 14 (.int .i64 ((A.t.lays : Int) + 1)) =
    refCells (A.laid ws A.peak) f0 f1 f2 f3 f4 f5 f6 f7 f8 v' := by
  simp [refCells, Ar.laid]
theorem peak_cells (A : Ar) (ws : List Int) (p q : Nat) (f0 f1 f2 f3 f4 f5 f6 f7 f8 : Int) (v : Value) : (refCells (A.laid ws p) f0 f1 f2 f3 f4 f5 f6 f7 f8 v).setIfInBounds 2 (.int .i64 (q : Int)) = refCells (A.laid ws q) f0 f1 f2 f3 f4 f5 f6 f7 f8 v := by
  simp [refCells, Ar.laid]
set_option maxRecDepth 100000 in
set_option maxHeartbeats 4000000 in
theorem refLay_yes (A : Ar) (f0 f1 f2 f3 f4 f5 f6 f7 f8 : Int) (v : Value) (l : List RB) (w : World) (h : BlksAt w v l) (hl : l.length ≤ 70000) (hu : used (l.map Prod.fst) ≤ 200000) (hlw : ∀ x, x ∈ l → x.1.ws.length ≤ 70000)
    (hAL : l.map Prod.fst = A.L) (hok : A.Ok) (hb : A.births ≤ 100000000) (hlays : A.t.lays ≤ 100000000) (wa : Addr) (ws : List Int) (c : Nat) (hws : ∀ j u, (u64s ws)[j]? = some u → w.cell? (wa.add j) = some u) (h1 : 1 ≤ ws.length) (h2 : ws.length ≤ 2048) (hr : used A.L + ws.length ≤ A.cap) :
    Calls Tryz.prog 11 #[.agg (refCells A f0 f1 f2 f3 f4 f5 f6 f7 f8 v), .slice (some wa) ws.length c] w fun e w' => ∃ v' l', e = .returned (.tuple #[.agg (refCells (A.lay ws).1 f0 f1 f2 f3 f4 f5 f6 f7 f8 v'), .int .u64 (layH A), .int .i64 0]) ∧ l'.map Prod.fst = (A.lay ws).1.L ∧ BlksAt w' v' l' ∧ Frm.Turn [] w w' ∧ (∀ k, v'.ownBlock = some k → w.heap.size ≤ k ∧ k < w'.heap.size) ∧ ∀ y, y ∈ l' → y ∈ l ∨ ∀ k, y.2.ownBlock = some k → w.heap.size ≤ k ∧ k < w'.heap.size := by
  have HB := Lib.hid h
  have HAL := Lib.hid hAL
  have HOK := Lib.hid hok
  have HWS := Lib.hid hws
  have hcap : A.cap ≤ 100000 := by have := hok.cap; omega
  obtain ⟨n, HNn⟩ : ∃ n, Hid (n = ws.length) := ⟨_, Lib.hid rfl⟩
  rw [← HNn.out] at h1 h2 hr ⊢
  rw [← hAL] at hr
  clear hAL hok hws
  obtain ⟨va, vc, rfl⟩ := h.form
  obtain ⟨fs, hfs⟩ := struct_of under_refA
  have HU := Lib.hid (fun W (hT : Frm.Turn [] w W) => refUsed_any A f0 f1 f2 f3 f4 f5 f6 f7 f8 _ l W (h.step hT) hl hu hlw)
  obtain ⟨q, HQ⟩ : ∃ q, Hid (q = l.length) := ⟨_, Lib.hid rfl⟩
  obtain ⟨s, HSs⟩ : ∃ s, Hid (s = used (l.map Prod.fst)) := ⟨_, Lib.hid rfl⟩
  rw [← HSs.out] at HU hu hr
  rw [← HQ.out] at HU hl ⊢
  obtain ⟨CS, HCS⟩ : ∃ CS, Hid (CS = refCells A f0 f1 f2 f3 f4 f5 f6 f7 f8 (.slice va q vc)) := ⟨_, Lib.hid rfl⟩
  have HSZ : Hid (CS.size = 20) := Lib.hid (by rw [HCS.out]; rfl)
  have HONE : Hid (CS.all (·.oneCell') = true) := Lib.hid (by rw [HCS.out]; exact refCells_one _ _ _ _ _ _ _ _ _ _ _ _ _)
  have HFS := Lib.hid hfs
  rw [show refCells A f0 f1 f2 f3 f4 f5 f6 f7 f8 (.slice va q vc) = CS from HCS.out.symm]
  have HUU := Lib.hid HU.out
  rw [← HCS.out] at HUU
  clear h hfs hlw HU
  go_enter Tryz.func11, Tryz.ntmps11
  go_upto_region 1 with fail
  have hin := RefIn.start w CS #[.int .i64 0, .int .i64 0, .int .i64 0, .int .i64 0, .int .u64 0, .int .u64 0, .int .u64 0, .int .u64 0, .int .u64 0, .int .u64 0, .int .u64 0, .int .u64 0, .int .u64 0, .slice none 0 0, .int .i64 0, .int .i64 0, .int .i64 0, .int .i64 0, .int .i64 0, .int .i64 0] rfl
  obtain ⟨bx, Hx⟩ : ∃ bx, Hid (bx = w.heap.size) := ⟨_, Lib.hid rfl⟩
  obtain ⟨bz, Hz⟩ : ∃ bz, Hid (bz = w.heap.size + 1) := ⟨_, Lib.hid rfl⟩
  rw [← Hz.out, ← Hx.out] at hin ⊢
  generalize (w.alloc (.cells CS 37)).alloc _ = W1 at hin ⊢
  have HIN := Lib.hid hin
  have h0' : ((n : Int) == 0) = false := by simp; omega
  have c0 := (RefIn.cells (by have := hin; rw [HCS.out] at this; exact this)).c0
  have hr1 : decide ((A.cap : Int) < (s : Int) + (n : Int)) = false := by simp; omega
  have ws_ : IntKind.i64.wrap ((s : Int) + (n : Int)) = (s : Int) + (n : Int) := by simp only [IntKind.wrap_i64]; omega
  have HT1 := Lib.hid hin.turn
  have HRR : Hid (∀ W', Frm.Turn [] W1 W' → W'.rangeAt bx 0 CS.toList) := Lib.hid fun W' hT j u hu => by
    rw [Nat.zero_add, (HIN.out.step hT (by simp) (by simp) (by simp)).cell j]
    simpa using hu
  have HRG := Lib.hid (HRR.out W1 (Frm.Turn.refl [] _))
  have HI20 : Hid ((Tryz.prog.info? 37).map (·.size) = some CS.toList.length) := Lib.hid (by rw [Array.length_toList, HSZ.out]; exact info_refA)
  clear hin
  go_upto_region 3 with fail
  go_cut [27] (fun s27 W => s27 = .bool false ∧ Frm.Turn [] W1 W)
  case first =>
    refine wp_region_held_drew (S := fun w' => w'.rangeAt bx 0 CS.toList ∧ w'.cell? ⟨bx, 0, none⟩ = some (.int .i64 A.cap)) (by kernel_rfl) ?_ (fun hHeld => ?_)
    · exact ⟨HRG.out, c0⟩
    refine wpAnyH_take (i := 0) (v := _) rfl (by kernel_rfl) (by kernel_rfl) (by kernel_rfl) (fun _ _ _ h => h)
          (yieldsIf_load_mid (by rfl) _ _ rfl bx 0 rfl CS.toList _ (fun w hw => hw.1) HFS.out rfl HI20.out) (by assumption) ?_
    simp only [Act.put, List.setIfInBounds_toArray, List.set_cons_zero, List.set_cons_succ, Array.toArray_toList]
    refine wpAnyH_take (i := 2) (v := ?_) rfl (by kernel_rfl) (by kernel_rfl) (by kernel_rfl) (fun _ _ _ h => h) (Or.inl ⟨by rfl, ?_⟩) (by assumption) ?_
    rotate_left
    · (intro w hSw; (try dsimp only at hSw); go_simp; try with_reducible rfl)
    simp only [Act.put, List.getElem_toArray, List.getElem_cons_succ, List.getElem_cons_zero, List.setIfInBounds_toArray, List.set_cons_zero, List.set_cons_succ]
    refine wpAnyH_take (i := 3) (v := ?_) rfl (by kernel_rfl) (by kernel_rfl) (by kernel_rfl) (fun _ _ _ h => h) (Or.inl ⟨by rfl, ?_⟩) (by assumption) ?_
    rotate_left
    · (intro w hSw; (try dsimp only at hSw); go_simp; try with_reducible rfl)
    simp only [Act.put, List.getElem_toArray, List.getElem_cons_succ, List.getElem_cons_zero, List.setIfInBounds_toArray, List.set_cons_zero, List.set_cons_succ]
    refine wpAnyH_take (i := 5) (v := ?_) rfl (by kernel_rfl) (by kernel_rfl) (by kernel_rfl) (fun _ _ _ h => h) (Or.inl ⟨by rfl, ?_⟩) (by assumption) ?_
    rotate_left
    · (intro w hSw; (try dsimp only at hSw); go_simp; try with_reducible rfl)
    simp only [Act.put, List.getElem_toArray, List.getElem_cons_succ, List.getElem_cons_zero, List.setIfInBounds_toArray, List.set_cons_zero, List.set_cons_succ]
    refine wpAnyH_take (i := 6) (v := ?_) rfl (by kernel_rfl) (by kernel_rfl) (by kernel_rfl) (fun _ _ _ h => h) (Or.inl ⟨by rfl, ?_⟩) (by assumption) ?_
    rotate_left
    · (intro w hSw; (try dsimp only at hSw); go_simp; try with_reducible rfl)
    simp only [Act.put, List.getElem_toArray, List.getElem_cons_succ, List.getElem_cons_zero, List.setIfInBounds_toArray, List.set_cons_zero, List.set_cons_succ]
    refine wpAnyH_ready (rs := [1]) (by kernel_rfl) (by simp) ?_
    refine AllReadyH.cons rfl (fun K hK => ?_) AllReadyH.nil
    simp only [List.getElem_toArray, List.getElem_cons_succ, List.getElem_cons_zero]
    go_simp
    have HK := Lib.hid hK
    clear hK
    go_at_call 64; (with_reducible refine (HUU.out _ (HT1.out.drew)).mono ?_); rintro e w2 ⟨rfl, hT⟩; have HT2 : Hid (Frm.Turn [] W1 w2) := Lib.hid (((Frm.Turn.refl [] W1).drew).trans hT (by simp)); clear hT
    go_wp2_with fail
    refine HK.out _ _ ⟨HRR.out _ HT2.out, HT2.out.cell c0 (by simp)⟩ (fun hHeld => ?_)
    clear HK K
    try simp only [Act.put, List.getElem_toArray, List.getElem_cons_succ, List.getElem_cons_zero, List.setIfInBounds_toArray, List.set_cons_zero, List.set_cons_succ]
    refine wpAnyH_take (i := 4) (v := ?_) rfl (by kernel_rfl) (by kernel_rfl) (by kernel_rfl) (fun _ _ _ h => h) (Or.inl ⟨by rfl, ?_⟩) (by assumption) ?_
    rotate_left
    · (intro w hSw; (try dsimp only at hSw); go_simp; try with_reducible rfl)
    simp only [Act.put, List.getElem_toArray, List.getElem_cons_succ, List.getElem_cons_zero, List.setIfInBounds_toArray, List.set_cons_zero, List.set_cons_succ]
    refine wpAnyH_take (i := 7) (v := ?_) rfl (by kernel_rfl) (by kernel_rfl) (by kernel_rfl) (fun _ _ _ h => h) (Or.inl ⟨by rfl, ?_⟩) (by assumption) ?_
    rotate_left
    · (intro w hSw; (try dsimp only at hSw); go_simp; try with_reducible rfl)
    simp only [Act.put, List.getElem_toArray, List.getElem_cons_succ, List.getElem_cons_zero, List.setIfInBounds_toArray, List.set_cons_zero, List.set_cons_succ]
    refine wpAnyH_done (by kernel_rfl) ?_ _
    go_wp2_with fail
    go_meet
    exact ⟨rfl, HT2.out⟩
  case rest =>
    obtain ⟨rfl, hT⟩ := hcut
    have HIN2 := Lib.hid (HIN.out.step hT (by simp) (by simp) (by simp))
    clear hT c0 hr1 ws_ HRG HRR HI20 HUU HIN HT1
    have c13 : wc.cell? ⟨bx, 13, none⟩ = some (.slice va q vc) := by rw [HIN2.out.cell, HCS.out]; rfl
    obtain ⟨d, HDd⟩ : ∃ d, Hid (d = lead 0 A.L) := ⟨_, Lib.hid rfl⟩
    have hlq : A.L.length = q := by rw [← HAL.out, List.length_map, HQ.out]
    have hdq : d ≤ q := by rw [HDd.out, ← hlq]; exact lead_le A.L 0
    have HLQ := Lib.hid hlq
    have HBL : Hid (BlksAt wc (.slice va q vc) l) := Lib.hid (by have := HB.out.step HIN2.out.turn; rw [← HQ.out] at this; exact this)
    clear hlq
    go_upto_block 0 with fail
    go_cut [7] (fun s7 W => s7 = .int .i64 d ∧ W = wc)
    case first =>
      go_wp2_with fail
      go_loop [7] (fun s => ∃ j : Nat, j ≤ d ∧ s = .int .i64 j) (fun s => d - (intOf s).toNat)
      case atStart => exact ⟨0, Nat.zero_le _, rfl⟩
      case round =>
        obtain ⟨j, hj, rfl⟩ := hrel
        by_cases hjq : j < q
        · obtain ⟨y, hy⟩ : ∃ y, l[j]? = some y := ⟨_, List.getElem?_eq_getElem (by rw [← HQ.out]; exact hjq)⟩
          obtain ⟨g, rfl, hcell⟩ : ∃ g, va = some ⟨g, 0, none⟩ ∧ ∀ j u, (rbCells l)[j]? = some u → wc.cell? ⟨g, j, none⟩ = some u := by
            rcases HBL.out.head with ⟨_, e2⟩ | ⟨g, c', e1, _, _, hc⟩
            · rw [e2] at hy; simp at hy
            · simp only [Value.slice.injEq] at e1
              exact ⟨g, e1.1, hc⟩
          have hcA := hcell _ _ (rbCells_get l j y hy).1
          have hyA : A.L[j]? = some y.1 := by rw [← HAL.out]; simp [hy]
          have hh := HOK.out.hnd y.1 (List.mem_of_getElem? hyA)
          have hbb := HOK.out.births
          obtain ⟨hk, hkk⟩ : ∃ hk, hk = y.1.h := ⟨_, rfl⟩
          rw [← hkk] at hcA hh
          have j0 : (0 : Int) ≤ (j : Int) := by omega
          have j1 : (j : Int) < (q : Int) := by omega
          have k0 : 0 ≤ hk := by omega
          have k1 : hk < 18446744073709551616 := by omega
          by_cases hjd : j < d
          · have h3 := lead_at A.L 0 j y.1 hyA (by rw [← HDd.out]; exact hjd)
            have e1 : (hk % 65536 == (j : Int) + 1) = true := by rw [hkk, h3]; simp
            clear hy hcell hyA hh hbb hkk h3
            go_wp2
            refine ⟨⟨j + 1, by omega, by simp⟩, ?_⟩
            simp [intOf]; omega
          · obtain rfl : j = d := by omega
            have h3 := lead_next A.L 0 y.1 (by rw [← HDd.out]; exact hyA)
            have e1 : (hk % 65536 == (j : Int) + 1) = false := by
              rw [hkk]; rw [← HDd.out] at h3; simp at h3 ⊢; omega
            clear hy hcell hyA hh hbb hkk h3
            go_wp2
            go_meet
            exact ⟨rfl, rfl⟩
        · obtain rfl : j = d := by omega
          go_wp2
          go_meet
          exact ⟨rfl, rfl⟩
    case rest =>
      obtain ⟨rfl, rfl⟩ := hcut
      obtain ⟨g, vc', e, hqc, hvm, hparts⟩ := HB.out.parts (d := d) (by rw [← HQ.out]; exact hdq)
      have hq6 : q ≤ 60000 := by
        have u1 := length_le_used (fun x hx => (HOK.out.len x hx).1)
        have u2 := HOK.out.top
        have u3 := HOK.out.peak
        have u4 := HOK.out.cap
        rw [HLQ.out] at u1
        omega
      rw [← HQ.out] at e hqc hparts
      simp only [Value.slice.injEq] at e
      obtain ⟨e1, _, e3⟩ := e
      subst e1
      subst e3
      have HPT := Lib.hid hparts
      have hhd := run_head g q d vc (by omega) (by unfold maxLen at hvm; omega)
      have htl := run_tail2 g q d vc hdq
      obtain ⟨ot, HOT⟩ : ∃ ot, Hid (ot = (g.map fun k => (⟨k, if vc = d then 0 else d * 2, none⟩ : Addr))) := ⟨_, Lib.hid rfl⟩
      obtain ⟨oh, HOH⟩ : ∃ oh, Hid (oh = (g.map fun k => (⟨k, 0, none⟩ : Addr))) := ⟨_, Lib.hid rfl⟩
      rw [← HOT.out] at HPT htl
      rw [← HOH.out] at HPT htl hhd c13 HCS
      have HVM := Lib.hid hvm
      clear hparts hvm HBL
      have c1 : wc.cell? ⟨bx, 1, none⟩ = some (.int .i64 A.births) := by rw [HIN2.out.cell, HCS.out]; rfl
      have fr1 := HIN2.out.thaw 1
      clear c13
      go_upto_region 9 with fail
      have hin9 := HIN2.out.set 1 (.int .i64 ((A.births : Int) + 1))
      generalize wc.setCell ⟨bx, 1, none⟩ (.int .i64 ((A.births : Int) + 1)) = W9 at hin9 ⊢
      have HIN9 := Lib.hid hin9
      clear hin9 c1 fr1
      have c1 : W9.cell? ⟨bx, 1, none⟩ = some (.int .i64 ((A.births : Int) + 1)) := by rw [HIN9.out.cell, HCS.out]; rfl
      have c13 : ∀ ob, (W9.alloc ob).cell? ⟨bx, 13, none⟩ = some (.slice oh q vc) := fun ob => ((Frm.Turn.refl [] W9).alloc ob).cell (by rw [HIN9.out.cell, HCS.out]; rfl) (by simp)
      have HH := Lib.hid (refHandle_any ((A.births : Int) + 1) ((d : Int) + 1) W9 (by omega) (by omega) (by omega) (by omega))
      obtain ⟨i0, hi0, hz0, hz1, hz2⟩ := info_parts info_blk
      obtain ⟨j0, hj0, hy0, hy1, hy2⟩ := info_parts info_u64
      have HO10 : Hid ((W9.alloc (.cells #[] 135)).ownsRow 0 135 2 (.slice (some ⟨W9.heap.size, 0, none⟩) 0 0) 0 []) := Lib.hid (World.ownsRow_made W9 #[] 0 (Nat.zero_le _) (by simp [maxLen]) (by simp))
      have HS10 := Lib.hid ((HPT.out _ (HIN9.out.turn.alloc (.cells #[] 135))).1)
      have HONE1 := Lib.hid (rb_one (l.take d) (fun x hx => HB.out.slices x (List.mem_of_mem_take hx)))
      go_upto_region 11 with (first
        | (go_at_call 65; (with_reducible refine (HH.out).mono ?_); rintro e w2 ⟨rfl, rfl⟩)
        | (at_builtin; refine wpList_append_src rfl (.tmp 60) (.tmp 64) 33 rfl 135 i0 (.agg #[.int .u64 0, .slice none 0 0]) 2 32 under_blks hi0 hz0 hz1 hz2 rfl (by decide) (.slice (some ⟨W9.heap.size, 0, none⟩) 0 0) 0 [] rfl HO10.out (.slice oh d vc) d (rbCells (l.take d)) rfl HS10.out HONE1.out (by unfold maxLen; omega) (by omega) ?_; intro v1 w3 hown3 hg3 hl3; simp only [Nat.zero_add, List.nil_append] at hown3; obtain ⟨ao1, cp1, rfl⟩ := Frm.row_form hown3; have HO3 := Lib.hid hown3; have HG3 := Lib.hid hg3; have HL3 := Lib.hid hl3; clear hown3 hg3 hl3))
      have HT3 : Hid (Frm.Turn [] W9 w3) := Lib.hid (fresh_grown (v := .slice none 0 0) HG3.out)
      have HB1 := Lib.hid (fresh_own HL3.out)
      have HIN3 := Lib.hid (HIN9.out.step HT3.out (by simp) (by simp) (by simp))
      have HLT := Lib.hid HIN9.out.lt
      have HO11 : Hid ((w3.alloc (.cells #[] 31)).ownsRow 0 31 1 (.slice (some ⟨w3.heap.size, 0, none⟩) 0 0) 0 []) := Lib.hid (World.ownsRow_made w3 #[] 0 (Nat.zero_le _) (by simp [maxLen]) (by simp))
      have HS11 : Hid (SrcAt (w3.alloc (.cells #[] 31)) (.slice (some wa) n c) n 1 (u64s ws)) := Lib.hid (.inr ⟨wa, c, rfl, by rw [HNn.out]; simp [u64s], fun j u hu => (HIN3.out.turn.alloc _).cell (HWS.out j u hu) (by simp)⟩)
      have HONE2 : Hid (∀ u ∈ u64s ws, u.oneCell' = true) := Lib.hid (by intro u hu; simp [u64s] at hu; obtain ⟨x, _, rfl⟩ := hu; rfl)
      clear HG3 HL3 HS10 HO10 HH
      clear c1 c13
      go_upto_region 12 with (first
        | (at_builtin; refine wpList_append_src rfl (.tmp 68) (.tmp 69) 25 rfl 31 j0 (.int .u64 0) 1 8 under_u64s hj0 hy0 hy1 hy2 rfl (by decide) (.slice (some ⟨w3.heap.size, 0, none⟩) 0 0) 0 [] rfl HO11.out (.slice (some wa) n c) n (u64s ws) rfl HS11.out HONE2.out (by unfold maxLen; omega) (by omega) ?_; intro v2 w4 hown4 hg4 hl4; simp only [Nat.zero_add, List.nil_append] at hown4; obtain ⟨ao2, cp2, rfl⟩ := Frm.row_form hown4; have HO4 := Lib.hid hown4; have HT4 := Lib.hid (fresh_grown (v := .slice none 0 0) hg4); have HB2 := Lib.hid (fresh_own hl4); have HO31 := Lib.hid (fun cs => rowT HO3.out (HT4.out.alloc (.cells cs 135)) (by simp)); have HS12 := fun h => Lib.hid (src_one w4 h (.slice ao2 n cp2)); clear hown4 hg4 hl4)
        | (at_builtin; refine wpList_append_src rfl (.tmp 66) (.tmp 72) 33 rfl 135 i0 (.agg #[.int .u64 0, .slice none 0 0]) 2 32 under_blks hi0 hz0 hz1 hz2 rfl (by decide) (.slice ao1 d cp1) d (rbCells (l.take d)) rfl (HO31.out _) (.slice (some ⟨w4.heap.size, 0, none⟩) 1 1) 1 _ rfl (HS12 _).out (by simp [Value.oneCell']) (by unfold maxLen; omega) (by omega) ?_; intro v3 w5 hown5 hg5 hl5; obtain ⟨ao3, cp3, rfl⟩ := Frm.row_form hown5; have HO5 := Lib.hid hown5; have HG5 := Lib.hid hg5; have HL5 := Lib.hid hl5; clear hown5 hg5 hl5))
      have HT5 : Hid (Frm.Turn [] W9 w5) := Lib.hid ((HT3.out.trans (HT4.out.alloc _) (by simp)).trans (Frm.Turn.of_grown HG5.out) (fun k hk => .inr (HB1.out k (by simpa using hk))))
      have HS4 := HT4.out.size
      have HS3 := HT3.out.size
      have HB3 : Hid (∀ k, (Value.slice ao3 (d + 1) cp3).ownBlock = some k → W9.heap.size ≤ k) := Lib.hid fun k hk => by
        rcases HL5.out with e | e
        · exact HB1.out k (e ▸ hk)
        · rw [e] at hk; simp at hk; omega
      have HN23 : Hid (∀ k, (Value.slice ao2 n cp2).ownBlock = some k → (Value.slice ao1 d cp1).ownBlock ≠ some k ∧ (Value.slice ao3 (d + 1) cp3).ownBlock ≠ some k) := Lib.hid fun k hk => by
        have k1 := HB2.out k hk
        have k2 := own_lt HO4.out k hk
        have k3 : (Value.slice ao1 d cp1).ownBlock ≠ some k := fun e => by have := own_lt HO3.out k e; omega
        refine ⟨k3, fun e => ?_⟩
        rcases HL5.out with e' | e'
        · exact k3 (e' ▸ e)
        · rw [e'] at e; simp at e; omega
      have HW5 : Hid (WordsAt w5 (.slice ao2 n cp2) ws) := Lib.hid (by
        have hw4 : WordsAt w4 (.slice ao2 n cp2) ws := by
          rcases HO4.out.2 with ⟨_, h0⟩ | ⟨g2, cap', cur, e, _⟩
          · omega
          · simp only [Value.slice.injEq] at e
            obtain ⟨rfl, _, rfl⟩ := e
            have := HO4.out
            rw [HNn.out] at this ⊢
            exact WordsAt.own this
        refine (hw4.turn ((Frm.Turn.refl [] w4).alloc (.cells #[.int .u64 (((A.births : Int) + 1) * 65536 + ((d : Int) + 1)), .slice ao2 n cp2] 135)) (by simp)).turn (Frm.Turn.of_grown HG5.out) (fun k hk hk' => (HN23.out k hk).1 (by simpa using hk')))
      have HN25 : Hid (∀ k, (Value.slice ao2 n cp2).ownBlock = some k → k < w5.heap.size) := Lib.hid fun k hk => by
        have k2 := own_lt HO4.out k hk
        have k3 := (Frm.Turn.of_grown HG5.out).size
        simp at k3; omega
      have HIN5 := Lib.hid (HIN9.out.step HT5.out (by simp) (by simp) (by simp))
      have HS5 := Lib.hid ((HPT.out _ HIN5.out.turn).2)
      have HONE3 := Lib.hid (rb_one (l.drop d) (fun x hx => HB.out.slices x (List.mem_of_mem_drop hx)))
      have c13 : w5.cell? ⟨bx, 13, none⟩ = some (.slice oh q vc) := by rw [HIN5.out.cell, HCS.out]; rfl
      have HW9 : Hid (W9.heap.size ≤ w3.heap.size) := Lib.hid HS3
      clear HG5 HL5 HS12 HO31 HO11 HS11 HT4 HT3 HB1 HIN3 HS4 HS3
      go_upto_region 13 with (first
        | (at_builtin; refine wpList_append_src rfl (.tmp 74) (.tmp 78) 33 rfl 135 i0 (.agg #[.int .u64 0, .slice none 0 0]) 2 32 under_blks hi0 hz0 hz1 hz2 rfl (by decide) (.slice ao3 (d + 1) cp3) (d + 1) _ rfl HO5.out (.slice ot (q - d) (vc - d)) (q - d) (rbCells (l.drop d)) rfl HS5.out HONE3.out (by unfold maxLen; omega) (by omega) ?_; intro v4 w6 hown6 hg6 hl6; obtain ⟨ao4, cp4, rfl⟩ := Frm.row_form hown6; have HO6 := Lib.hid hown6; have HG6 := Lib.hid hg6; have HT6 : Hid (Frm.Turn [] W9 w6) := Lib.hid (HT5.out.trans (Frm.Turn.of_grown hg6) (fun k hk => .inr (HB3.out k (by simpa using hk)))); have HL6 := Lib.hid hl6; have HIN6 := Lib.hid (HIN9.out.step HT6.out (by simp) (by simp) (by simp)); have f13 := HIN6.out.thaw 13; have c13' : w6.cell? ⟨bx, 13, none⟩ = some (.slice oh q vc) := (by rw [HIN6.out.cell, HCS.out]; rfl); clear hown6 hg6 hl6))
      have HB4 : Hid (∀ k, (Value.slice ao4 (d + 1 + (q - d)) cp4).ownBlock = some k → W9.heap.size ≤ k) := Lib.hid fun k hk => by
        have := HT5.out.size
        rcases HL6.out with e | e
        · exact HB3.out k (e ▸ hk)
        · rw [e] at hk; simp at hk; omega
      have HLH : Hid (((A.births : Int) + 1) * 65536 + ((d : Int) + 1) = layH A) := Lib.hid (by unfold layH; rw [HDd.out])
      have HW6 : Hid (WordsAt w6 (.slice ao2 n cp2) ws) := Lib.hid (HW5.out.turn (Frm.Turn.of_grown HG6.out) (fun k hk hk' => (HN23.out k hk).2 (by simpa using hk')))
      have HV2 : Hid (∀ k, (Value.slice ao2 n cp2).ownBlock = some k → W9.heap.size ≤ k) := Lib.hid fun k hk => by have := HB2.out k hk; have := HW9.out; omega
      have HBK : Hid (∀ W, Frm.Turn [bx, bz] w6 W → Frm.Turn [] w W → BlksAt W (.slice ao4 (d + 1 + (q - d)) cp4) (l.take d ++ (⟨layH A, ws⟩, .slice ao2 n cp2) :: l.drop d)) := Lib.hid fun W h6 hW => by
        have k1 := HLT.out
        have hd' : d ≤ l.length := by rw [← HQ.out]; exact hdq
        have ho := HO6.out
        rw [HLH.out] at ho
        have hc : d + 1 + (q - d) = d + 1 + (l.length - d) := by rw [HQ.out]
        rw [hc] at ho ⊢
        have hb4 := HB4.out
        rw [hc] at hb4
        refine blks_ins HB.out hW hd' ho h6 (fun k hk hk' => ?_) (HW6.out.turn h6 (fun k hk hk' => ?_))
        · have := hb4 k hk; simp at hk'; omega
        · have := HV2.out k hk; simp at hk'; omega
      have HN2 : Hid (∀ k, (Value.slice ao2 n cp2).ownBlock = some k → w.heap.size ≤ k ∧ k < w6.heap.size) := Lib.hid fun k hk => by
        have k1 := HIN9.out.turn.size
        have k2 := HV2.out k hk
        have k3 := HN25.out k hk
        have k4 := (Frm.Turn.of_grown HG6.out).size
        omega
      have HN4 : Hid (∀ k, (Value.slice ao4 (d + 1 + (q - d)) cp4).ownBlock = some k → w.heap.size ≤ k ∧ k < w6.heap.size) := Lib.hid fun k hk => by
        have k1 := HIN9.out.turn.size
        have k2 := HB4.out k hk
        have k3 := own_lt HO6.out k hk
        omega
      have hin10 := HIN6.out.set 13 (.slice ao4 (d + 1 + (q - d)) cp4)
      have ht10 : Frm.Turn [bx, bz] w6 (w6.setCell ⟨bx, 13, none⟩ (.slice ao4 (d + 1 + (q - d)) cp4)) := (Frm.Turn.refl _ w6).setCell (p := ⟨bx, 13, none⟩) (.inl (by simp)) _
      generalize w6.setCell ⟨bx, 13, none⟩ (.slice ao4 (d + 1 + (q - d)) cp4) = W10 at hin10 ht10 ⊢
      have HIN10 := Lib.hid hin10
      have HT10 := Lib.hid ht10
      clear hin10 ht10 f13 c13' c13 HG6 HL6 HO5 HS5 HT5 HIN5 HB3 HN23 HW5
      have c14 : W10.cell? ⟨bx, 14, none⟩ = some (.int .i64 A.t.lays) := by rw [HIN10.out.cell, HCS.out]; rfl
      have f14 := HIN10.out.thaw 14
      go_upto_region 14 with fail
      have hin11 := HIN10.out.set 14 (.int .i64 ((A.t.lays : Int) + 1))
      have ht11 : Frm.Turn [bx, bz] w6 (W10.setCell ⟨bx, 14, none⟩ (.int .i64 ((A.t.lays : Int) + 1))) := HT10.out.setCell (p := ⟨bx, 14, none⟩) (.inl (by simp)) _
      generalize W10.setCell ⟨bx, 14, none⟩ (.int .i64 ((A.t.lays : Int) + 1)) = W11 at hin11 ht11 ⊢
      rw [HCS.out, laid_cells A ws] at hin11
      obtain ⟨v4, HV4⟩ : ∃ v4, Hid (v4 = Value.slice ao4 (d + 1 + (q - d)) cp4) := ⟨_, Lib.hid rfl⟩
      have hbk := HBK.out
      rw [← HV4.out] at hin11 hbk
      obtain ⟨C4, HC4⟩ : ∃ C4, Hid (C4 = refCells (A.laid ws A.peak) f0 f1 f2 f3 f4 f5 f6 f7 f8 v4) := ⟨_, Lib.hid rfl⟩
      have HSZ4 : Hid (C4.size = 20) := Lib.hid (by rw [HC4.out]; rfl)
      obtain ⟨u, HUs⟩ : ∃ u, Hid (u = s + n) := ⟨_, Lib.hid rfl⟩
      have HUE : Hid (used (List.map Prod.fst (l.take d ++ ((⟨layH A, ws⟩ : Blk), Value.slice ao2 n cp2) :: l.drop d)) = u) := Lib.hid (by
        rw [List.map_append, List.map_cons, List.map_take, List.map_drop, used_mid, ← HSs.out, HUs.out, HNn.out])
      have HUV := Lib.hid (refUsed_any (A.laid ws A.peak) f0 f1 f2 f3 f4 f5 f6 f7 f8 v4 _ W11 (hbk W11 ht11 hin11.turn) ?gl ?gu ?gw)
      case gl => simp [← HQ.out]; omega
      case gu => rw [HUE.out, HUs.out]; omega
      case gw =>
        intro x hx
        have hlow : ∀ y, y ∈ l → y.1.ws.length ≤ 70000 := fun y hy => by
          have := (HOK.out.len y.1 (by rw [← HAL.out]; exact List.mem_map_of_mem hy)).2
          omega
        simp only [List.mem_append, List.mem_cons] at hx
        rcases hx with hx | rfl | hx
        · exact hlow x (List.mem_of_mem_take hx)
        · show ws.length ≤ 70000
          rw [← HNn.out]; omega
        · exact hlow x (List.mem_of_mem_drop hx)
      rw [HUE.out] at HUV
      rw [← HC4.out] at hin11 HUV
      have HIN11 := Lib.hid hin11
      have HT11 := Lib.hid ht11
      have HBK4 := Lib.hid hbk
      clear hin11 ht11 hbk c14 f14
      go_upto_region 15 with (first
        | (refine wpList_load_row rfl 37 (.tmp 2) rfl bx rfl 37 C4 (0, 0) (.struct fs) HIN11.out.own HFS.out rfl (by rw [HSZ4.out]; exact info_refA) ?_)
        | (go_at_call 64; (with_reducible refine (HUV.out).mono ?_); rintro e w8 ⟨rfl, hT⟩; have HT8 := Lib.hid hT; clear hT))
      have HIN8 := Lib.hid (HIN11.out.step HT8.out (by simp) (by simp) (by simp))
      have HT68 : Hid (Frm.Turn [bx, bz] w6 w8) := Lib.hid (HT11.out.trans HT8.out (by simp))
      have c2 : w8.cell? ⟨bx, 2, none⟩ = some (.int .i64 A.peak) := by rw [HIN8.out.cell, HC4.out]; rfl
      have fr2 := HIN8.out.thaw 2
      have HLY : Hid ((A.lay ws).1 = A.laid ws (max A.peak u)) := Lib.hid (by rw [lay_eq (by rw [← HNn.out]; omega) (by rw [← HNn.out]; omega) (by rw [← HAL.out, ← HSs.out, ← HNn.out]; omega)]; unfold Ar.laid; rw [← HAL.out, ← HSs.out, ← HNn.out, HUs.out])
      have HLL : Hid (List.map Prod.fst (l.take d ++ ((⟨layH A, ws⟩ : Blk), Value.slice ao2 n cp2) :: l.drop d) = (A.lay ws).1.L) := Lib.hid (by
        rw [HLY.out, List.map_append, List.map_cons, List.map_take, List.map_drop, HAL.out, HDd.out]; rfl)
      clear HUV HUE
      by_cases hp : A.peak < u
      · have e1 : decide ((A.peak : Int) < (u : Int)) = true := by simpa using hp
        have hm : max A.peak u = u := Nat.max_eq_right (Nat.le_of_lt hp)
        rw [hm] at HLY
        go_upto_region 17 with fail
        have hin12 := HIN8.out.set 2 (.int .i64 (u : Int))
        have ht12 : Frm.Turn [bx, bz] w6 (w8.setCell ⟨bx, 2, none⟩ (.int .i64 (u : Int))) := HT68.out.setCell (p := ⟨bx, 2, none⟩) (.inl (by simp)) _
        generalize w8.setCell ⟨bx, 2, none⟩ (.int .i64 (u : Int)) = W12 at hin12 ht12 ⊢
        rw [HC4.out, peak_cells] at hin12
        obtain ⟨C5, HC5⟩ : ∃ C5, Hid (C5 = refCells (A.laid ws u) f0 f1 f2 f3 f4 f5 f6 f7 f8 v4) := ⟨_, Lib.hid rfl⟩
        have HSZ5 : Hid (C5.size = 20) := Lib.hid (by rw [HC5.out]; rfl)
        have HONE5 : Hid (C5.all (·.oneCell') = true) := Lib.hid (by rw [HC5.out, HV4.out]; exact refCells_one _ _ _ _ _ _ _ _ _ _ _ _ _)
        rw [← HC5.out] at hin12
        obtain ⟨Z, z1, z2⟩ := hin12.res
        have HZ1 := Lib.hid z1
        have HZ2 := Lib.hid z2
        have hld := hin12.told HSZ5.out HFS.out
        have HIN12 := Lib.hid hin12
        have HT12 := Lib.hid ht12
        have HTF : Hid (Frm.Turn [bx, bz] w6 (W12.setRow bz C5)) := Lib.hid (setRow_turn HT12.out (.inl (by simp)) C5)
        have HZF : Hid (w6.heap.size ≤ (W12.setRow bz C5).heap.size) := Lib.hid HTF.out.size
        clear hin12 ht12 z1 z2 c2 fr2 e1
        go_wp2_with (first
          | (refine wpList_load_row rfl 37 (.tmp 2) rfl bx rfl 37 C5 (0, 0) (.struct fs) HIN12.out.own HFS.out rfl (by rw [HSZ5.out]; exact info_refA) ?_)
          | (refine wpList_store_row rfl 37 (.tmp 4) (.tmp 95) rfl bz C5 rfl rfl 37 Z HZ2.out (by rw [HSZ5.out]; exact info_refA) (by rw [HZ1.out, HSZ5.out]) HONE5.out ?_))
        refine bodyPost_ret (v := .tuple #[.agg C5, .int .u64 (((A.births : Int) + 1) * 65536 + ((d : Int) + 1)), .int .i64 0]) (by simp [results, Tryz.results11, asAddr, hld]) rfl ⟨v4, _, ?_, HLL.out, HBK4.out _ HTF.out HIN12.out.end_, HIN12.out.end_, fun k hk => ?_, fun y hy => ?_⟩
        · rw [HLH.out, HLY.out, HC5.out]
        · have k1 := HN4.out k (by rw [← HV4.out]; exact hk)
          exact ⟨k1.1, Nat.lt_of_lt_of_le k1.2 HZF.out⟩
        · simp only [List.mem_append, List.mem_cons] at hy
          rcases hy with hy | rfl | hy
          · exact .inl (List.mem_of_mem_take hy)
          · refine .inr fun k hk => ?_
            have k1 := HN2.out k hk
            exact ⟨k1.1, Nat.lt_of_lt_of_le k1.2 HZF.out⟩
          · exact .inl (List.mem_of_mem_drop hy)
      · have e1 : decide ((A.peak : Int) < (u : Int)) = false := by simp; omega
        have hm : max A.peak u = A.peak := Nat.max_eq_left (by omega)
        rw [hm] at HLY
        have HONE4 : Hid (C4.all (·.oneCell') = true) := Lib.hid (by rw [HC4.out, HV4.out]; exact refCells_one _ _ _ _ _ _ _ _ _ _ _ _ _)
        obtain ⟨Z, z1, z2⟩ := HIN8.out.res
        have HZ1 := Lib.hid z1
        have HZ2 := Lib.hid z2
        have hld := HIN8.out.told HSZ4.out HFS.out
        have HTF : Hid (Frm.Turn [bx, bz] w6 (w8.setRow bz C4)) := Lib.hid (setRow_turn HT68.out (.inl (by simp)) C4)
        have HZF : Hid (w6.heap.size ≤ (w8.setRow bz C4).heap.size) := Lib.hid HTF.out.size
        clear z1 z2 fr2
        go_wp2_with (first
          | (refine wpList_load_row rfl 37 (.tmp 2) rfl bx rfl 37 C4 (0, 0) (.struct fs) HIN8.out.own HFS.out rfl (by rw [HSZ4.out]; exact info_refA) ?_)
          | (refine wpList_store_row rfl 37 (.tmp 4) (.tmp 95) rfl bz C4 rfl rfl 37 Z HZ2.out (by rw [HSZ4.out]; exact info_refA) (by rw [HZ1.out, HSZ4.out]) HONE4.out ?_))
        refine bodyPost_ret (v := .tuple #[.agg C4, .int .u64 (((A.births : Int) + 1) * 65536 + ((d : Int) + 1)), .int .i64 0]) (by simp [results, Tryz.results11, asAddr, hld]) rfl ⟨v4, _, ?_, HLL.out, HBK4.out _ HTF.out HIN8.out.end_, HIN8.out.end_, fun k hk => ?_, fun y hy => ?_⟩
        · rw [HLH.out, HLY.out, HC4.out]
        · have k1 := HN4.out k (by rw [← HV4.out]; exact hk)
          exact ⟨k1.1, Nat.lt_of_lt_of_le k1.2 HZF.out⟩
        · simp only [List.mem_append, List.mem_cons] at hy
          rcases hy with hy | rfl | hy
          · exact .inl (List.mem_of_mem_take hy)
          · refine .inr fun k hk => ?_
            have k1 := HN2.out k hk
            exact ⟨k1.1, Nat.lt_of_lt_of_le k1.2 HZF.out⟩
          · exact .inl (List.mem_of_mem_drop hy)
end Arn
end Go.Proofs.YtpajafecodkndaaGreat
