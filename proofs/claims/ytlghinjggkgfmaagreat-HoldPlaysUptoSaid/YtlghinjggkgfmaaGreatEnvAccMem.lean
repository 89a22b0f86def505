/- The document's environment in memory. -/
/- The document's environment: what an access answered is put down. -/
/- The document's environment: its arena is taken out, and one that an access made is put back. -/
import Derived.Test.YtlghinjggkgfmaaGreatEnvTie
import Derived.Test.YtlghinjggkgfmaaGreatArenaRefAll
import Derived.Deep.MidRow
import Derived.Deep.RegionWith
import Derived.Deep.QuietTactic
import Derived.BigQuiet
import Derived.RangeFuncRecord
import Derived.Deep.RegionLaw
import Derived.Deep.DeepMust
import Derived.Laws.Tables
import Derived.Laws.Rows
set_option linter.unusedVariables false
set_option linter.unusedSimpArgs false
namespace Go.Proofs.YtlghinjggkgfmaaGreat
namespace Evn
open Go.RowKit Go.Maps Arn

def resCells (l : List Res) : List Value := l.flatMap fun r => [.int .u64 r.w, .bool r.ok, .int .i64 r.e]
theorem resCells_length (l : List Res) : (resCells l).length = l.length * 3 := by
  induction l with
  | nil => rfl
  | cons x t ih => simp only [resCells, List.flatMap_cons, List.length_append, List.length_cons, List.length_nil] at ih ⊢; omega
theorem resCells_append (l r : List Res) : resCells (l ++ r) = resCells l ++ resCells r := by simp [resCells]
theorem resCells_get : ∀ (l : List Res) (i : Nat), i < l.length → (resCells l)[i * 3]? = some (.int .u64 (l.getD i Res.zero).w) ∧ (resCells l)[i * 3 + 1]? = some (.bool (l.getD i Res.zero).ok) ∧ (resCells l)[i * 3 + 2]? = some (.int .i64 (l.getD i Res.zero).e) := by
  intro l
  induction l with
  | nil => intro i hi; simp at hi
  | cons x t ih =>
    intro i hi
    cases i with
    | zero => simp [resCells]
    | succ i =>
      have h := ih i (by simpa using hi)
      have e : ∀ j, (resCells (x :: t))[j + 3]? = (resCells t)[j]? := fun j => by simp [resCells]
      rw [show (i + 1) * 3 = i * 3 + 3 by omega, show i * 3 + 3 + 1 = (i * 3 + 1) + 3 by omega, show i * 3 + 3 + 2 = (i * 3 + 2) + 3 by omega, e, e, e]
      simpa using h
/-- An environment: its arena's cells CS, its row lv of answers; G: where the arena lies. -/
structure EnAt (W : World) (eb : Nat) (E : En) (CS : Array Value) (lv : Value) (G : List Nat) : Prop where
  row : W.heap[eb]? = some (.cells (CS ++ #[lv, .int .i64 (E.at_ : Int), .bool E.did, .bool E.stop]) 77 (0, 0))
  size : CS.size = 20
  one : CS.all (·.oneCell') = true
  m : RefS W E.A (.agg CS) G
  log : W.ownsRow 0 213 3 lv E.log.length (resCells E.log)
  le : lv.ownBlock ≠ some eb
  ge : eb ∉ G
  gl : ∀ k, k ∈ G → k < W.heap.size
variable {W W' : World} {eb : Nat} {E : En} {CS : Array Value} {lv : Value} {G : List Nat}
theorem EnAt.lt (h : EnAt W eb E CS lv G) : eb < W.heap.size := (Array.getElem?_eq_some_iff.1 h.row).1
theorem EnAt.cells (h : EnAt W eb E CS lv G) : W.cell? ⟨eb, 20, none⟩ = some lv ∧ W.cell? ⟨eb, 21, none⟩ = some (.int .i64 (E.at_ : Int)) ∧ W.cell? ⟨eb, 22, none⟩ = some (.bool E.did) ∧ W.cell? ⟨eb, 23, none⟩ = some (.bool E.stop) := by
  have hs := h.size
  refine ⟨?_, ?_, ?_, ?_⟩ <;> (rw [Frm.cell_row _ _ _ _ _ _ h.row, Array.getElem?_append_right (by omega), hs]; rfl)
theorem EnAt.thaw (h : EnAt W eb E CS lv G) (i : Nat) : W.frozen? ⟨eb, i, none⟩ = false := Frm.frozen_row _ _ _ _ _ h.row
theorem EnAt.step (h : EnAt W eb E CS lv G) (ht : Frm.Turn [] W W') : EnAt W' eb E CS lv G :=
  ⟨ht.keep h.row (by simp), h.size, h.one, h.m.turn ht (by simp), Frm.owns_turn h.log ht (by simp), h.le, h.ge, fun k hk => by have := h.gl k hk; have := ht.size; omega⟩
theorem EnAt.turn {F : List Nat} (h : EnAt W eb E CS lv G) (ht : Frm.Turn F W W') (h1 : eb ∉ F) (h2 : ∀ k, k ∈ G → k ∉ F) (h3 : ∀ k, lv.ownBlock = some k → k ∉ F) : EnAt W' eb E CS lv G :=
  ⟨ht.keep h.row h1, h.size, h.one, h.m.turn ht h2, Frm.owns_turn h.log ht h3, h.le, h.ge, fun k hk => by have := h.gl k hk; have := ht.size; omega⟩
theorem turn_eb (W : World) (eb i : Nat) (v : Value) : Frm.Turn [eb] W (W.setCell ⟨eb, i, none⟩ v) := (Frm.Turn.refl _ W).setCell (p := ⟨eb, i, none⟩) (.inl (by simp)) v
/-- What lies there when the environment's own block alone turns. -/
theorem EnAt.rest (h : EnAt W eb E CS lv G) (ht : Frm.Turn [eb] W W') : RefS W' E.A (.agg CS) G ∧ W'.ownsRow 0 213 3 lv E.log.length (resCells E.log) ∧ ∀ k, k ∈ G → k < W'.heap.size :=
  ⟨h.m.turn ht (fun k hk e => by simp at e; subst e; exact h.ge hk), Frm.owns_turn h.log ht (fun k hk e => by simp at e; subst e; exact h.le hk), fun k hk => by have := h.gl k hk; have := ht.size; omega⟩
/-- Behind steps that turn the environment's own block, and new ones, alone. -/
theorem EnAt.moved (h : EnAt W eb E CS lv G) (ht : Frm.Turn [eb] W W') (E' : En) (hA : E'.A = E.A) (hL : E'.log = E.log) (hr : W'.heap[eb]? = some (.cells (CS ++ #[lv, .int .i64 (E'.at_ : Int), .bool E'.did, .bool E'.stop]) 77 (0, 0))) : EnAt W' eb E' CS lv G := by
  obtain ⟨r1, r2, r3⟩ := h.rest ht
  exact ⟨hr, h.size, h.one, by rw [hA]; exact r1, by rw [hL]; exact r2, h.le, h.ge, r3⟩
/-- An answer is put into the result's block. -/
theorem put_res (w : World) (k n : Nat) (a b c x y z : Value) (h : w.heap[k]? = some (.cells #[a, b, c] 213 (0, 0))) :
    ((((w.drewN n).setCell ⟨k, 0, none⟩ x).setCell ⟨k, 1, none⟩ y).setCell ⟨k, 2, none⟩ z).heap[k]? = some (.cells #[x, y, z] 213 (0, 0)) ∧ Frm.Turn [k] w ((((w.drewN n).setCell ⟨k, 0, none⟩ x).setCell ⟨k, 1, none⟩ y).setCell ⟨k, 2, none⟩ z) := by
  have h1 : (w.drewN n).heap[k]? = some (.cells #[a, b, c] 213 (0, 0)) := h
  refine ⟨Frm.heap_set _ k 2 _ _ _ z (Frm.heap_set _ k 1 _ _ _ y (Frm.heap_set _ k 0 _ _ _ x h1)), ?_⟩
  exact ((((Frm.Turn.refl [k] w).drewN n).setCell (p := ⟨k, 0, none⟩) (.inl (by simp)) _).setCell (p := ⟨k, 1, none⟩) (.inl (by simp)) _).setCell (p := ⟨k, 2, none⟩) (.inl (by simp)) _
theorem put_res0 (w : World) (k : Nat) (a b c x y z : Value) (h : w.heap[k]? = some (.cells #[a, b, c] 213 (0, 0))) :
    (((w.setCell ⟨k, 0, none⟩ x).setCell ⟨k, 1, none⟩ y).setCell ⟨k, 2, none⟩ z).heap[k]? = some (.cells #[x, y, z] 213 (0, 0)) ∧ Frm.Turn [k] w (((w.setCell ⟨k, 0, none⟩ x).setCell ⟨k, 1, none⟩ y).setCell ⟨k, 2, none⟩ z) := put_res w k 0 a b c x y z h
theorem app_set (CS : Array Value) (a b c d v : Value) (hs : CS.size = 20) : (CS ++ #[a, b, c, d]).setIfInBounds 21 v = CS ++ #[a, v, c, d] ∧ (CS ++ #[a, b, c, d]).setIfInBounds 22 v = CS ++ #[a, b, v, d] ∧ (CS ++ #[a, b, c, d]).setIfInBounds 23 v = CS ++ #[a, b, c, v] ∧ (CS ++ #[a, b, c, d]).setIfInBounds 20 v = CS ++ #[v, b, c, d] := by
  refine ⟨?_, ?_, ?_, ?_⟩ <;> (rw [Array.setIfInBounds_append_right (by omega), hs]; rfl)
theorem EnAt.setAt (h : EnAt W eb E CS lv G) (n : Nat) : EnAt (W.setCell ⟨eb, 21, none⟩ (.int .i64 (n : Int))) eb { E with at_ := n } CS lv G := by
  obtain ⟨r1, r2, r3⟩ := h.rest (turn_eb W eb 21 (.int .i64 (n : Int)))
  exact ⟨by rw [Frm.heap_set _ _ _ _ _ _ _ h.row, (app_set CS _ _ _ _ _ h.size).1], h.size, h.one, r1, r2, h.le, h.ge, r3⟩
theorem EnAt.setDid (h : EnAt W eb E CS lv G) (x : Bool) : EnAt (W.setCell ⟨eb, 22, none⟩ (.bool x)) eb { E with did := x } CS lv G := by
  obtain ⟨r1, r2, r3⟩ := h.rest (turn_eb W eb 22 (.bool x))
  exact ⟨by rw [Frm.heap_set _ _ _ _ _ _ _ h.row, (app_set CS _ _ _ _ _ h.size).2.1], h.size, h.one, r1, r2, h.le, h.ge, r3⟩
theorem EnAt.setStop (h : EnAt W eb E CS lv G) (x : Bool) : EnAt (W.setCell ⟨eb, 23, none⟩ (.bool x)) eb { E with stop := x } CS lv G := by
  obtain ⟨r1, r2, r3⟩ := h.rest (turn_eb W eb 23 (.bool x))
  exact ⟨by rw [Frm.heap_set _ _ _ _ _ _ _ h.row, (app_set CS _ _ _ _ _ h.size).2.2.1], h.size, h.one, r1, r2, h.le, h.ge, r3⟩
theorem under_res : structB (Tryz.prog.underlying 213) = true := by kernel_rfl
theorem info_res : (Tryz.prog.info? 213).map (·.size) = some 3 := by kernel_rfl
theorem load_res {W : World} {k : Nat} {x y z : Value} (h : W.heap[k]? = some (.cells #[x, y, z] 213 (0, 0))) : (loadVar 213 ⟨k, 0, none⟩).run Tryz.prog W = .ok (.agg #[x, y, z]) W := by
  obtain ⟨fs, hfs⟩ := struct_of under_res
  exact run_loadVar_row W k _ _ #[x, y, z] (0, 0) (.struct fs) h hfs rfl info_res
def resV (r : Res) : Value := .agg #[.int .u64 r.w, .bool r.ok, .int .i64 r.e]
/-- Behind old. -/
def OldPost (W : World) (eb : Nat) (E : En) (CS : Array Value) (lv : Value) (G : List Nat) (r : Res) (bo : Bool) (E' : En) (e : Ending) (w' : World) : Prop :=
  e = .returned (.tuple #[resV r, .bool bo]) ∧ EnAt w' eb E' CS lv G ∧ Frm.Turn [eb] W w'
set_option maxRecDepth 100000 in
set_option maxHeartbeats 1000000 in
theorem old_stop (h : EnAt W eb E CS lv G) (hs : E.stop = true) : Calls Tryz.prog 121 #[.pointer (some ⟨eb, 0, none⟩)] W (OldPost W eb E CS lv G Res.zero true E) := by
  have h1 := fun o => (h.step ((Frm.Turn.refl [] W).alloc o)).cells
  have c3 : ∀ o, (W.alloc o).cell? ⟨eb, 23, none⟩ = some (.bool true) := fun o => by rw [← hs]; exact (h1 o).2.2.2
  have HH := Lib.hid h
  clear h h1
  go_enter Tryz.func121, Tryz.ntmps121
  go_wp2
  have hld := load_res (World.alloc_heap_new W (.cells #[.int .u64 0, .bool false, .int .i64 0] 213))
  exact bodyPost_ret (v := .tuple #[resV Res.zero, .bool true]) (by simp [results, Tryz.results121, asAddr, hld, Act.put, resV, Res.zero]) rfl ⟨rfl, HH.out.step ((Frm.Turn.refl [] W).alloc _), (Frm.Turn.refl [eb] W).alloc _⟩
theorem EnAt.logCells (h : EnAt W eb E CS lv G) {i : Nat} (hi : i < E.log.length) : ∃ g c, lv = .slice (some ⟨g, 0, none⟩) E.log.length c ∧ W.cell? ⟨g, i * 3, none⟩ = some (.int .u64 (E.log.getD i Res.zero).w) ∧ W.cell? ⟨g, i * 3 + 1, none⟩ = some (.bool (E.log.getD i Res.zero).ok) ∧ W.cell? ⟨g, i * 3 + 2, none⟩ = some (.int .i64 (E.log.getD i Res.zero).e) := by
  have hl := h.log
  rcases hl.2 with ⟨_, e2⟩ | ⟨g, c, cur, rfl, _⟩
  · omega
  · obtain ⟨e1, e2, e3⟩ := resCells_get E.log i hi
    exact ⟨g, c, rfl, (hl.cellAt _ (by omega)).trans e1, (hl.cellAt _ (by omega)).trans e2, (hl.cellAt _ (by omega)).trans e3⟩
set_option maxRecDepth 100000 in
set_option maxHeartbeats 2000000 in
theorem old_again (h : EnAt W eb E CS lv G) (hs : E.stop = false) (hi : E.at_ < E.log.length) (hl : E.log.length ≤ 100000) : Calls Tryz.prog 121 #[.pointer (some ⟨eb, 0, none⟩)] W (OldPost W eb E CS lv G (E.log.getD E.at_ Res.zero) true { E with at_ := E.at_ + 1 }) := by
  have h1 := h.step ((Frm.Turn.refl [] W).alloc (.cells #[.int .u64 0, .bool false, .int .i64 0] 213))
  have h2 := h1.setAt (E.at_ + 1)
  have hn := World.alloc_heap_new W (.cells #[.int .u64 0, .bool false, .int .i64 0] 213)
  have hne : W.heap.size ≠ eb := by have := h.lt; omega
  obtain ⟨_, c1, _, c3⟩ := h1.cells
  rw [hs] at c3
  have f1 := h1.thaw 21
  obtain ⟨d0, d1, d2, d3⟩ := h2.cells
  obtain ⟨g, lc, hlv, e0, e1, e2⟩ := h2.logCells hi
  dsimp only at hlv e0 e1 e2 d1
  subst hlv
  have ej : ((E.at_ + 1 : Nat) : Int) = (E.at_ : Int) + 1 := by omega
  have hT2 : Frm.Turn [eb] W ((W.alloc (.cells #[.int .u64 0, .bool false, .int .i64 0] 213)).setCell ⟨eb, 21, none⟩ (.int .i64 ((E.at_ + 1 : Nat) : Int))) := ((Frm.Turn.refl [eb] W).alloc _).setCell (p := ⟨eb, 21, none⟩) (.inl (by simp)) _
  have hn2 := (turn_eb (W.alloc (.cells #[.int .u64 0, .bool false, .int .i64 0] 213)) eb 21 (.int .i64 ((E.at_ + 1 : Nat) : Int))).keep hn (by simpa using hne)
  rw [ej] at d0 d1 e0 e1 e2 h2 hT2 hn2
  have H2 := Lib.hid h2
  have HT2 := Lib.hid hT2
  have HN2 := Lib.hid hn2
  have HEN := Lib.hid h
  have HNE := Lib.hid hne
  have q0 : (E.at_ : Int) < (E.log.length : Int) := by omega
  have q1 : (E.at_ : Int) ≤ 100000 := by omega
  have q2 : (E.log.length : Int) ≤ 100000 := by omega
  have q3 : (E.at_ : Int) + 1 ≤ (E.log.length : Int) := by omega
  clear h h1 h2 hT2 hn2 hn hs hi hl ej hne d2 d3
  generalize E.log.getD E.at_ Res.zero = r at e0 e1 e2 ⊢
  obtain ⟨x, y, z⟩ := r
  dsimp only at e0 e1 e2
  go_enter Tryz.func121, Tryz.ntmps121
  go_wp2
  go_quiet (fail)
  go_wp2
  go_region
  all_goals go_wp2
  all_goals
    obtain ⟨p1, p2⟩ := put_res _ _ (nq + 1) _ _ _ (.int .u64 x) (.bool y) (.int .i64 z) HN2.out
    have hld := load_res p1
    have hT := HT2.out.trans p2 (fun k hk => .inr (by simp at hk; omega))
    refine bodyPost_ret (v := .tuple #[resV ⟨x, y, z⟩, .bool true]) (by simp [results, Tryz.results121, asAddr, hld, Act.put, resV]) rfl ⟨rfl, HEN.out.moved hT _ rfl rfl (p2.keep H2.out.row (by simpa using fun e => HNE.out e.symm)), hT⟩
set_option maxRecDepth 100000 in
set_option maxHeartbeats 2000000 in
/-- Nothing is left to be answered again, and nothing was done yet. -/
theorem old_new (h : EnAt W eb E CS lv G) (hs : E.stop = false) (hi : E.log.length ≤ E.at_) (hd : E.did = false) (hl : E.at_ ≤ 100000) : Calls Tryz.prog 121 #[.pointer (some ⟨eb, 0, none⟩)] W (OldPost W eb E CS lv G Res.zero false { E with at_ := E.at_ + 1, did := true }) := by
  have h1 := h.step ((Frm.Turn.refl [] W).alloc (.cells #[.int .u64 0, .bool false, .int .i64 0] 213))
  have h2 := h1.setAt (E.at_ + 1)
  have hn := World.alloc_heap_new W (.cells #[.int .u64 0, .bool false, .int .i64 0] 213)
  have hne : W.heap.size ≠ eb := by have := h.lt; omega
  obtain ⟨_, c1, _, c3⟩ := h1.cells
  rw [hs] at c3
  have f1 := h1.thaw 21
  have f2 := h2.thaw 22
  obtain ⟨d0, d1, d2, d3⟩ := h2.cells
  dsimp only at d1 d2 d3
  rw [hd] at d2
  rw [hs] at d3
  have ej : ((E.at_ + 1 : Nat) : Int) = (E.at_ : Int) + 1 := by omega
  have HR : Hid (∀ n, ((((W.alloc (.cells #[.int .u64 0, .bool false, .int .i64 0] 213)).setCell ⟨eb, 21, none⟩ (.int .i64 ((E.at_ : Int) + 1))).drewN n).setCell ⟨eb, 22, none⟩ (.bool true)).heap[eb]? = some (.cells (CS ++ #[lv, .int .i64 ((E.at_ + 1 : Nat) : Int), .bool true, .bool false]) 77 (0, 0))) := Lib.hid fun n => by
    have hr := h2.row
    dsimp only at hr
    rw [hs, hd, ej] at hr
    have hr' : (((W.alloc (.cells #[.int .u64 0, .bool false, .int .i64 0] 213)).setCell ⟨eb, 21, none⟩ (.int .i64 ((E.at_ : Int) + 1))).drewN n).heap[eb]? = _ := hr
    rw [Frm.heap_set _ _ _ _ _ _ _ hr', (app_set CS _ _ _ _ _ h.size).2.1, ej]
  have HT : Hid (∀ n, Frm.Turn [eb] W ((((W.alloc (.cells #[.int .u64 0, .bool false, .int .i64 0] 213)).setCell ⟨eb, 21, none⟩ (.int .i64 ((E.at_ : Int) + 1))).drewN n).setCell ⟨eb, 22, none⟩ (.bool true))) := Lib.hid fun n => ((((Frm.Turn.refl [eb] W).alloc _).setCell (p := ⟨eb, 21, none⟩) (.inl (by simp)) _).drewN n).setCell (p := ⟨eb, 22, none⟩) (.inl (by simp)) _
  have HN : Hid (∀ n, ((((W.alloc (.cells #[.int .u64 0, .bool false, .int .i64 0] 213)).setCell ⟨eb, 21, none⟩ (.int .i64 ((E.at_ : Int) + 1))).drewN n).setCell ⟨eb, 22, none⟩ (.bool true)).heap[W.heap.size]? = some (.cells #[.int .u64 0, .bool false, .int .i64 0] 213 (0, 0))) := Lib.hid fun n => ((((Frm.Turn.refl [eb] (W.alloc (.cells #[.int .u64 0, .bool false, .int .i64 0] 213))).setCell (p := ⟨eb, 21, none⟩) (.inl (by simp)) _).drewN n).setCell (p := ⟨eb, 22, none⟩) (.inl (by simp)) _).keep hn (by simpa using hne)
  rw [ej] at d0 d1 d2 d3 f2
  have HEN := Lib.hid h
  have HNE := Lib.hid hne
  have HS := Lib.hid hs
  have HD := Lib.hid hd
  obtain ⟨ao, c, hlv⟩ := Frm.row_form h.log
  subst hlv
  have q0 : (E.log.length : Int) ≤ (E.at_ : Int) := by omega
  have q1 : (E.at_ : Int) ≤ 100000 := by omega
  clear h h1 h2 hn hs hd hi hl ej hne
  go_enter Tryz.func121, Tryz.ntmps121
  go_wp2
  go_quiet (fail)
  go_wp2
  obtain ⟨p1, p2⟩ := put_res0 _ _ _ _ _ (.int .u64 0) (.bool false) (.int .i64 0) (HN.out nq)
  have hld := load_res p1
  have hT := (HT.out nq).trans p2 (fun k hk => .inr (by simp at hk; omega))
  have hr := p2.keep (HR.out nq) (by simpa using fun e => HNE.out e.symm)
  refine bodyPost_ret (v := .tuple #[resV Res.zero, .bool false]) (by simp [results, Tryz.results121, asAddr, hld, Act.put, resV, Res.zero]) rfl ⟨rfl, HEN.out.moved hT _ rfl rfl ?_, hT⟩
  dsimp only
  first | rw [HS.out] | rw [HD.out]
  exact hr
set_option maxRecDepth 100000 in
set_option maxHeartbeats 2000000 in
/-- Nothing is left, and one access was done: here it stops. -/
theorem old_past (h : EnAt W eb E CS lv G) (hs : E.stop = false) (hi : E.log.length ≤ E.at_) (hd : E.did = true) (hl : E.at_ ≤ 100000) : Calls Tryz.prog 121 #[.pointer (some ⟨eb, 0, none⟩)] W (OldPost W eb E CS lv G Res.zero true { E with at_ := E.at_ + 1, stop := true }) := by
  have h1 := h.step ((Frm.Turn.refl [] W).alloc (.cells #[.int .u64 0, .bool false, .int .i64 0] 213))
  have h2 := h1.setAt (E.at_ + 1)
  have hn := World.alloc_heap_new W (.cells #[.int .u64 0, .bool false, .int .i64 0] 213)
  have hne : W.heap.size ≠ eb := by have := h.lt; omega
  obtain ⟨_, c1, _, c3⟩ := h1.cells
  rw [hs] at c3
  have f1 := h1.thaw 21
  have f2 := h2.thaw 23
  obtain ⟨d0, d1, d2, d3⟩ := h2.cells
  dsimp only at d1 d2 d3
  rw [hd] at d2
  rw [hs] at d3
  have ej : ((E.at_ + 1 : Nat) : Int) = (E.at_ : Int) + 1 := by omega
  have HR : Hid (∀ n, ((((W.alloc (.cells #[.int .u64 0, .bool false, .int .i64 0] 213)).setCell ⟨eb, 21, none⟩ (.int .i64 ((E.at_ : Int) + 1))).drewN n).setCell ⟨eb, 23, none⟩ (.bool true)).heap[eb]? = some (.cells (CS ++ #[lv, .int .i64 ((E.at_ + 1 : Nat) : Int), .bool true, .bool true]) 77 (0, 0))) := Lib.hid fun n => by
    have hr := h2.row
    dsimp only at hr
    rw [hs, hd, ej] at hr
    have hr' : (((W.alloc (.cells #[.int .u64 0, .bool false, .int .i64 0] 213)).setCell ⟨eb, 21, none⟩ (.int .i64 ((E.at_ : Int) + 1))).drewN n).heap[eb]? = _ := hr
    rw [Frm.heap_set _ _ _ _ _ _ _ hr', (app_set CS _ _ _ _ _ h.size).2.2.1, ej]
  have HT : Hid (∀ n, Frm.Turn [eb] W ((((W.alloc (.cells #[.int .u64 0, .bool false, .int .i64 0] 213)).setCell ⟨eb, 21, none⟩ (.int .i64 ((E.at_ : Int) + 1))).drewN n).setCell ⟨eb, 23, none⟩ (.bool true))) := Lib.hid fun n => ((((Frm.Turn.refl [eb] W).alloc _).setCell (p := ⟨eb, 21, none⟩) (.inl (by simp)) _).drewN n).setCell (p := ⟨eb, 23, none⟩) (.inl (by simp)) _
  have HN : Hid (∀ n, ((((W.alloc (.cells #[.int .u64 0, .bool false, .int .i64 0] 213)).setCell ⟨eb, 21, none⟩ (.int .i64 ((E.at_ : Int) + 1))).drewN n).setCell ⟨eb, 23, none⟩ (.bool true)).heap[W.heap.size]? = some (.cells #[.int .u64 0, .bool false, .int .i64 0] 213 (0, 0))) := Lib.hid fun n => ((((Frm.Turn.refl [eb] (W.alloc (.cells #[.int .u64 0, .bool false, .int .i64 0] 213))).setCell (p := ⟨eb, 21, none⟩) (.inl (by simp)) _).drewN n).setCell (p := ⟨eb, 23, none⟩) (.inl (by simp)) _).keep hn (by simpa using hne)
  rw [ej] at d0 d1 d2 d3 f2
  have HEN := Lib.hid h
  have HNE := Lib.hid hne
  have HS := Lib.hid hs
  have HD := Lib.hid hd
  obtain ⟨ao, c, hlv⟩ := Frm.row_form h.log
  subst hlv
  have q0 : (E.log.length : Int) ≤ (E.at_ : Int) := by omega
  have q1 : (E.at_ : Int) ≤ 100000 := by omega
  clear h h1 h2 hn hs hd hi hl ej hne
  go_enter Tryz.func121, Tryz.ntmps121
  go_wp2
  go_quiet (fail)
  go_wp2
  obtain ⟨p1, p2⟩ := put_res0 _ _ _ _ _ (.int .u64 0) (.bool false) (.int .i64 0) (HN.out nq)
  have hld := load_res p1
  have hT := (HT.out nq).trans p2 (fun k hk => .inr (by simp at hk; omega))
  have hr := p2.keep (HR.out nq) (by simpa using fun e => HNE.out e.symm)
  refine bodyPost_ret (v := .tuple #[resV Res.zero, .bool true]) (by simp [results, Tryz.results121, asAddr, hld, Act.put, resV, Res.zero]) rfl ⟨rfl, HEN.out.moved hT _ rfl rfl ?_, hT⟩
  dsimp only
  first | rw [HS.out] | rw [HD.out]
  exact hr
/-- old, in one form. -/
theorem old_any (h : EnAt W eb E CS lv G) (hl : E.log.length ≤ 100000) (ha : E.at_ ≤ 100000) : Calls Tryz.prog 121 #[.pointer (some ⟨eb, 0, none⟩)] W (OldPost W eb E CS lv G E.oldR E.oldB E.oldE) := by
  unfold En.oldR En.oldB En.oldE
  by_cases hs : E.stop = true
  · simp only [if_pos hs]
    exact old_stop h hs
  · simp only [if_neg hs]
    have hs : E.stop = false := by simpa using hs
    by_cases hi : E.at_ < E.log.length
    · simp only [if_pos hi]
      exact old_again h hs hi hl
    · simp only [if_neg hi]
      by_cases hd : E.did = true
      · simp only [if_pos hd]
        have hp := old_past h hs (by omega) hd ha
        rw [hd] at hp ⊢
        exact hp
      · simp only [if_neg hd]
        have hd : E.did = false := by simpa using hd
        rw [hd]
        exact old_new h hs (by omega) hd ha
end Evn
end Go.Proofs.YtlghinjggkgfmaaGreat

set_option linter.unusedVariables false
set_option linter.unusedSimpArgs false
namespace Go.Proofs.YtlghinjggkgfmaaGreat
namespace Frm
open Go.RowKit
/-- An append of one row to another, nil or not, as one step of a region that draws its order. -/
theorem step_append_rows {P : Program} {ops : Array Oper} {o : Oper} {a : Act} {w : World} {K : Act → World → Prop} {Q : Exit → Act → World → Prop} {E : Prop}
    (hg : o.guard = none) (s x : Operand) (t : TypeId) (hop : o.op = Op.call { callee := Callee.builtin Builtin.append, args := #[s, x], argTypes := #[t, t] })
    (e : TypeId) (i : TypeInfo) (z : Value) (size bytes : Nat) (h1 : P.underlying t = some (.slice e)) (h2 : P.info? e = some i) (h3 : i.zero = some z) (h4 : i.size = size) (h5 : i.bytes = bytes) (h6 : z.cells.size = size) (h7 : 0 < size)
    (base : Nat) (v : Value) (n : Nat) (xs : List Value) (hs : a.eval s = v) (hown : w.ownsRow base e size v n xs) (y : Value) (hx : a.eval x = y) (m base' : Nat) (ys : List Value) (hy : w.ownsRow base' e size y m ys) (h1c : ∀ u ∈ ys, u.oneCell' = true)
    (b1 : n + m ≤ maxLen) (b2 : (n + m) * bytes ≤ 140737488355328) (hbase : base ≤ w.heap.size)
    (hK : ∀ v' w', w'.ownsRow base e size v' (n + m) (xs ++ ys) → w.grownBy w' v.ownBlock → (v'.ownBlock = v.ownBlock ∨ v'.ownBlock = some w.heap.size) → K (a.put o.dst v') w') :
    if Region.wanted o (yielded ops a.tmps) = true then Oper.wp P o a w K Q else E := by
  have hw : Region.wanted o (yielded ops a.tmps) = true := by simp [Region.wanted, hg]
  rw [if_pos hw]
  obtain ⟨v', w', hrun, r1, r2, r3⟩ := run_append_rows (P := P) w base t o.type e i z size bytes h1 h2 h3 h4 h5 h6 h7 v n xs hown y m base' ys hy h1c b1 b2 hbase
  unfold Oper.wp
  simp [execOp, hop, resolve, invoke, builtin, hs, hx, hrun, Result.andThen]
  exact hK v' w' r1 r2 r3
end Frm
namespace Evn
open Go.RowKit Go.Maps Arn

theorem under_ress : Tryz.prog.underlying 75 = some (.slice 213) := by kernel_rfl
theorem info_ress : (Tryz.prog.info? 213).map (fun i => (i.zero, i.size, i.bytes)) = some (some (.agg #[.int .u64 0, .bool false, .int .i64 0]), 3, 24) := by kernel_rfl
theorem res_one (l : List Res) : ∀ u ∈ resCells l, u.oneCell' = true := by
  intro u hu
  simp only [resCells, List.mem_flatMap] at hu
  obtain ⟨r, _, h⟩ := hu
  simp at h
  rcases h with rfl | rfl | rfl <;> rfl
variable {W W' : World} {eb : Nat} {E : En} {CS : Array Value} {lv : Value} {G : List Nat}
set_option maxRecDepth 100000 in
set_option maxHeartbeats 4000000 in
/-- done: the answer stands behind the others, and is handed back. -/
theorem done_any (h : EnAt W eb E CS lv G) (hl : E.log.length ≤ 100000) (r : Res) :
    Calls Tryz.prog 123 #[.pointer (some ⟨eb, 0, none⟩), resV r] W fun e w' => e = .returned (resV r) ∧ ∃ lv', EnAt w' eb { E with log := E.log ++ [r] } CS lv' G ∧ Frm.Turn [eb] W w' ∧ ∀ k, lv'.ownBlock = some k → W.heap.size ≤ k := by
  obtain ⟨x, y, z⟩ := r
  unfold resV
  dsimp only
  obtain ⟨ao, c, rfl⟩ := Frm.row_form h.log
  obtain ⟨n, HNE⟩ : ∃ n, Hid (n = E.log.length) := ⟨_, Lib.hid rfl⟩
  obtain ⟨l, HLE⟩ : ∃ l, Hid (l = E.log) := ⟨_, Lib.hid rfl⟩
  have hw0 : Frm.Turn [] W ((W.alloc (.cells #[.int .u64 x, .bool y, .int .i64 z] 213)).alloc (.cells #[.int .u64 0, .bool false, .int .i64 0] 213)) := ((Frm.Turn.refl [] W).alloc _).alloc _
  have hb0 := ((Frm.Turn.refl [] (W.alloc (.cells #[.int .u64 x, .bool y, .int .i64 z] 213))).alloc (.cells #[.int .u64 0, .bool false, .int .i64 0] 213)).keep (World.alloc_heap_new W (.cells #[.int .u64 x, .bool y, .int .i64 z] 213)) (by simp)
  have hb1 := World.alloc_heap_new (W.alloc (.cells #[.int .u64 x, .bool y, .int .i64 z] 213)) (.cells #[.int .u64 0, .bool false, .int .i64 0] 213)
  rw [World.size_alloc] at hb1
  have hE := h.step hw0
  rw [← HNE.out] at hE hl
  have hq0 := h.lt
  go_enter Tryz.func123, Tryz.ntmps123
  go_upto_region 1 with fail
  generalize hwr : (W.alloc (.cells #[.int .u64 x, .bool y, .int .i64 z] 213)).alloc (.cells #[.int .u64 0, .bool false, .int .i64 0] 213) = wr at hw0 hb0 hb1 hE ⊢
  obtain ⟨kb, HKB⟩ : ∃ k, Hid (k = W.heap.size) := ⟨_, Lib.hid rfl⟩
  rw [← HKB.out] at hb0 hb1 ⊢
  have hkb : eb ≠ kb ∧ eb ≠ kb + 1 := by have := HKB.out; omega
  have HB0 := Lib.hid hb0
  have HB1 := Lib.hid hb1
  have HE := Lib.hid hE
  have HW0 := Lib.hid hw0
  have HGL : Hid (∀ k, k ∈ G → k < kb) := Lib.hid fun k hk => by have := h.gl k hk; have := HKB.out; omega
  have hz0 : kb + 1 < wr.heap.size := (Array.getElem?_eq_some_iff.1 hb1).1
  have hz00 : kb < wr.heap.size := by omega
  have heb : eb < wr.heap.size := hE.lt
  have HK13 : Hid (∀ W, Frm.Turn [] wr W → W.cell? ⟨eb, 20, none⟩ = some (.slice ao n c) ∧ W.frozen? ⟨eb, 20, none⟩ = false) := Lib.hid fun W hT => ⟨((HE.out.step hT).cells).1, (HE.out.step hT).thaw 20⟩
  have HRW : Hid (∀ W, Frm.Turn [] wr W → W.ownsRow 0 213 3 (.slice ao n c) n (resCells l)) := Lib.hid fun W hT => by
    have := (HE.out.step hT).log
    rw [← HNE.out, ← HLE.out] at this
    exact this
  have HKS : Hid (∀ W, Frm.Turn [] wr W → W.cell? ⟨kb, 0, none⟩ = some (.int .u64 x) ∧ W.cell? ⟨kb, 1, none⟩ = some (.bool y) ∧ W.cell? ⟨kb, 2, none⟩ = some (.int .i64 z)) := Lib.hid fun W hT => by
    have := hT.keep HB0.out (by simp)
    refine ⟨?_, ?_, ?_⟩ <;> (rw [Frm.cell_row _ _ _ _ _ _ this]; rfl)
  have HOa : Hid ((wr.drew.alloc (.cells #[] 213)).ownsRow 0 213 3 (.slice (some ⟨wr.heap.size, 0, none⟩) 0 0) 0 []) := Lib.hid (World.ownsRow_made (base := 0) (e := 213) (size := 3) wr.drew #[] 0 (Nat.zero_le _) (by simp [maxLen]) (by simp))
  have HOc : Hid (((wr.drew.alloc (.cells #[.int .u64 x, .bool y, .int .i64 z] 213)).alloc (.cells #[] 213)).ownsRow 0 213 3 (.slice (some ⟨wr.heap.size + 1, 0, none⟩) 0 0) 0 []) := Lib.hid (by
    have := World.ownsRow_made (base := 0) (e := 213) (size := 3) (wr.drew.alloc (.cells #[.int .u64 x, .bool y, .int .i64 z] 213)) #[] 0 (Nat.zero_le _) (by simp [maxLen]) (by simp)
    rw [World.size_alloc] at this
    exact this)
  have HLc : Hid ((wr.drew.alloc (.cells #[.int .u64 x, .bool y, .int .i64 z] 213)).ownsRow 0 213 3 (.slice (some ⟨wr.heap.size, 0, none⟩) 1 1) 1 [.int .u64 x, .bool y, .int .i64 z]) := Lib.hid (World.ownsRow_lit (base := 0) (e := 213) (size := 3) wr.drew #[.int .u64 x, .bool y, .int .i64 z] 1 (Nat.zero_le _) (by simp [maxLen]) rfl)
  have HLb : Hid (((wr.drew.alloc (.cells #[] 213)).alloc (.cells #[.int .u64 x, .bool y, .int .i64 z] 213)).ownsRow 0 213 3 (.slice (some ⟨wr.heap.size + 1, 0, none⟩) 1 1) 1 [.int .u64 x, .bool y, .int .i64 z]) := Lib.hid (by
    have := (World.ownsRow_lit (base := 0) (e := 213) (size := 3) (wr.drew.alloc (.cells #[] 213)) #[.int .u64 x, .bool y, .int .i64 z] 1 (Nat.zero_le _) (by simp [maxLen]) rfl)
    rw [World.size_alloc] at this
    exact this)
  obtain ⟨ik, hi, hz1, hz2, hz3⟩ := info_parts info_ress
  have HI := Lib.hid hi
  have HZ0 := Lib.hid hz1
  have HZ1 := Lib.hid hz2
  have HZ2 := Lib.hid hz3
  have kd13 : wr.cell? ⟨eb, 20, none⟩ = some (.slice ao n c) := (HK13.out _ (Frm.Turn.refl [] wr)).1
  obtain ⟨kn0, kn1, kn2⟩ := HKS.out _ (Frm.Turn.refl [] wr)
  clear hw0 hb0 hb1 hE hi hz1 hz2 hz3 hwr h
  go_cut [] (fun W2 => ∃ lv', EnAt W2 eb { E with log := E.log ++ [⟨x, y, z⟩] } CS lv' G ∧ Frm.Turn [eb] wr W2 ∧ ∀ k, lv'.ownBlock = some k → wr.heap.size ≤ k)
  case first =>
    go_region_law
      (first
        | (refine Frm.step_append_rows (by rfl) (.tmp 6) (.tmp 10) 75 (by rfl) 213 ik (.agg #[.int .u64 0, .bool false, .int .i64 0]) 3 24 under_ress HI.out HZ0.out HZ1.out HZ2.out rfl (by decide) 0 (.slice (some ⟨wr.heap.size, 0, none⟩) 0 0) 0 [] (by rfl) HOa.out (.slice ao n c) (by rfl) n 0 (resCells l) (HRW.out _ (((Frm.Turn.refl [] wr).drew).alloc (.cells #[] 213))) (res_one l) (by unfold maxLen; omega) (by omega) (Nat.zero_le _) ?_; intro v1 w1 ho1 hg1 hl1; simp only [Nat.zero_add, List.nil_append] at ho1; obtain ⟨a1, c1, rfl⟩ := Frm.row_form ho1; have HO1 := Lib.hid ho1; have HG1 := Lib.hid hg1; have HL1 : Hid (∀ k, (Value.slice a1 n c1).ownBlock = some k → wr.heap.size ≤ k) := Lib.hid (fun k hk => by rw [hk] at hl1; simp [Value.ownBlock] at hl1; omega); have HT1 : Hid (Frm.Turn [] wr w1) := Lib.hid ((((Frm.Turn.refl [] wr).drew).alloc (.cells #[] 213)).trans (Frm.Turn.of_grown hg1) (fun q hq => by simp [Value.ownBlock] at hq; omega)); obtain ⟨km0, km1, km2⟩ := HKS.out _ HT1.out; clear ho1 hg1 hl1)
        | (refine Frm.step_append_rows (by rfl) (.tmp 6) (.tmp 10) 75 (by rfl) 213 ik (.agg #[.int .u64 0, .bool false, .int .i64 0]) 3 24 under_ress HI.out HZ0.out HZ1.out HZ2.out rfl (by decide) 0 (.slice (some ⟨wr.heap.size, 0, none⟩) 0 0) 0 [] (by rfl) (HOa.out.alloc (.cells #[.int .u64 x, .bool y, .int .i64 z] 213)) (.slice ao n c) (by rfl) n 0 (resCells l) (HRW.out _ ((((Frm.Turn.refl [] wr).drew).alloc (.cells #[] 213)).alloc (.cells #[.int .u64 x, .bool y, .int .i64 z] 213))) (res_one l) (by unfold maxLen; omega) (by omega) (Nat.zero_le _) ?_; intro v1 w1 ho1 hg1 hl1; simp only [Nat.zero_add, List.nil_append] at ho1; obtain ⟨a1, c1, rfl⟩ := Frm.row_form ho1; have HO1 := Lib.hid ho1; have HG1 := Lib.hid hg1; have HL1 : Hid (∀ k, (Value.slice a1 n c1).ownBlock = some k → wr.heap.size ≤ k) := Lib.hid (fun k hk => by rw [hk] at hl1; simp [Value.ownBlock] at hl1; omega); have HT1 : Hid (Frm.Turn [] wr w1) := Lib.hid (((((Frm.Turn.refl [] wr).drew).alloc (.cells #[] 213)).alloc (.cells #[.int .u64 x, .bool y, .int .i64 z] 213)).trans (Frm.Turn.of_grown hg1) (fun q hq => by simp [Value.ownBlock] at hq; omega)); obtain ⟨km0, km1, km2⟩ := HKS.out _ HT1.out; clear ho1 hg1 hl1)
        | (refine Frm.step_append_rows (by rfl) (.tmp 6) (.tmp 10) 75 (by rfl) 213 ik (.agg #[.int .u64 0, .bool false, .int .i64 0]) 3 24 under_ress HI.out HZ0.out HZ1.out HZ2.out rfl (by decide) 0 (.slice (some ⟨wr.heap.size + 1, 0, none⟩) 0 0) 0 [] (by rfl) HOc.out (.slice ao n c) (by rfl) n 0 (resCells l) (HRW.out _ ((((Frm.Turn.refl [] wr).drew).alloc (.cells #[.int .u64 x, .bool y, .int .i64 z] 213)).alloc (.cells #[] 213))) (res_one l) (by unfold maxLen; omega) (by omega) (Nat.zero_le _) ?_; intro v1 w1 ho1 hg1 hl1; simp only [Nat.zero_add, List.nil_append] at ho1; obtain ⟨a1, c1, rfl⟩ := Frm.row_form ho1; have HO1 := Lib.hid ho1; have HG1 := Lib.hid hg1; have HL1 : Hid (∀ k, (Value.slice a1 n c1).ownBlock = some k → wr.heap.size ≤ k) := Lib.hid (fun k hk => by rw [hk] at hl1; simp [Value.ownBlock] at hl1; omega); have HT1 : Hid (Frm.Turn [] wr w1) := Lib.hid (((((Frm.Turn.refl [] wr).drew).alloc (.cells #[.int .u64 x, .bool y, .int .i64 z] 213)).alloc (.cells #[] 213)).trans (Frm.Turn.of_grown hg1) (fun q hq => by simp [Value.ownBlock] at hq; omega)); obtain ⟨km0, km1, km2⟩ := HKS.out _ HT1.out; clear ho1 hg1 hl1)
        | (refine Frm.step_append_rows (by rfl) (.tmp 11) (.tmp 13) 75 (by rfl) 213 ik (.agg #[.int .u64 0, .bool false, .int .i64 0]) 3 24 under_ress HI.out HZ0.out HZ1.out HZ2.out rfl (by decide) 0 (.slice a1 n c1) n (resCells l) (by rfl) (HO1.out.alloc (.cells #[.int .u64 x, .bool y, .int .i64 z] 213)) (.slice (some ⟨w1.heap.size, 0, none⟩) 1 1) (by rfl) 1 0 [.int .u64 x, .bool y, .int .i64 z] (World.ownsRow_lit (base := 0) (e := 213) (size := 3) w1 #[.int .u64 x, .bool y, .int .i64 z] 1 (Nat.zero_le _) (by simp [maxLen]) rfl) (by simp [Value.oneCell']) (by unfold maxLen; omega) (by omega) (Nat.zero_le _) ?_; intro v2 w2 ho2 hg2 hl2; obtain ⟨a2, c2, rfl⟩ := Frm.row_form ho2; have HO2 := Lib.hid ho2; have HL2 : Hid (∀ k, (Value.slice a2 (n + 1) c2).ownBlock = some k → wr.heap.size ≤ k) := Lib.hid (fun k hk => by rcases hl2 with e | e; exact HL1.out k (by rw [← e]; exact hk); rw [hk] at e; have := HT1.out.size; simp at e; omega); have HT2 : Hid (Frm.Turn [] wr w2) := Lib.hid ((HT1.out.alloc (.cells #[.int .u64 x, .bool y, .int .i64 z] 213)).trans (Frm.Turn.of_grown hg2) (fun q hq => .inr (HL1.out q (by simpa using hq)))); obtain ⟨k13, kf13⟩ := HK13.out _ HT2.out; clear ho2 hg2 hl2)
        | (refine Frm.step_append_rows (by rfl) (.tmp 11) (.tmp 13) 75 (by rfl) 213 ik (.agg #[.int .u64 0, .bool false, .int .i64 0]) 3 24 under_ress HI.out HZ0.out HZ1.out HZ2.out rfl (by decide) 0 (.slice a1 n c1) n (resCells l) (by rfl) HO1.out (.slice (some ⟨wr.heap.size + 1, 0, none⟩) 1 1) (by rfl) 1 0 [.int .u64 x, .bool y, .int .i64 z] (Frm.owns_turn HLb.out (Frm.Turn.of_grown HG1.out) (by intro k hk; simp [Value.ownBlock] at hk ⊢; omega)) (by simp [Value.oneCell']) (by unfold maxLen; omega) (by omega) (Nat.zero_le _) ?_; intro v2 w2 ho2 hg2 hl2; obtain ⟨a2, c2, rfl⟩ := Frm.row_form ho2; have HO2 := Lib.hid ho2; have HL2 : Hid (∀ k, (Value.slice a2 (n + 1) c2).ownBlock = some k → wr.heap.size ≤ k) := Lib.hid (fun k hk => by rcases hl2 with e | e; exact HL1.out k (by rw [← e]; exact hk); rw [hk] at e; have := HT1.out.size; simp at e; omega); have HT2 : Hid (Frm.Turn [] wr w2) := Lib.hid (HT1.out.trans (Frm.Turn.of_grown hg2) (fun q hq => .inr (HL1.out q (by simpa using hq)))); obtain ⟨k13, kf13⟩ := HK13.out _ HT2.out; clear ho2 hg2 hl2)
        | (refine Frm.step_append_rows (by rfl) (.tmp 11) (.tmp 13) 75 (by rfl) 213 ik (.agg #[.int .u64 0, .bool false, .int .i64 0]) 3 24 under_ress HI.out HZ0.out HZ1.out HZ2.out rfl (by decide) 0 (.slice a1 n c1) n (resCells l) (by rfl) HO1.out (.slice (some ⟨wr.heap.size, 0, none⟩) 1 1) (by rfl) 1 0 [.int .u64 x, .bool y, .int .i64 z] (Frm.owns_turn (HLc.out.alloc (.cells #[] 213)) (Frm.Turn.of_grown HG1.out) (by intro k hk; simp [Value.ownBlock] at hk ⊢; omega)) (by simp [Value.oneCell']) (by unfold maxLen; omega) (by omega) (Nat.zero_le _) ?_; intro v2 w2 ho2 hg2 hl2; obtain ⟨a2, c2, rfl⟩ := Frm.row_form ho2; have HO2 := Lib.hid ho2; have HL2 : Hid (∀ k, (Value.slice a2 (n + 1) c2).ownBlock = some k → wr.heap.size ≤ k) := Lib.hid (fun k hk => by rcases hl2 with e | e; exact HL1.out k (by rw [← e]; exact hk); rw [hk] at e; have := HT1.out.size; simp at e; omega); have HT2 : Hid (Frm.Turn [] wr w2) := Lib.hid (HT1.out.trans (Frm.Turn.of_grown hg2) (fun q hq => .inr (HL1.out q (by simpa using hq)))); obtain ⟨k13, kf13⟩ := HK13.out _ HT2.out; clear ho2 hg2 hl2))
    all_goals go_wp2_with fail
    all_goals go_meet
    all_goals
      have hE2 := HE.out.step HT2.out
      have hT3 : Frm.Turn [eb] w2 (w2.setCell ⟨eb, 20, none⟩ (.slice a2 (n + 1) c2)) := turn_eb w2 eb 20 _
      obtain ⟨r1, r2, r3⟩ := hE2.rest hT3
      refine ⟨.slice a2 (n + 1) c2, ⟨by rw [Frm.heap_set _ _ _ _ _ _ _ hE2.row, (app_set CS _ _ _ _ _ hE2.size).2.2.2], hE2.size, hE2.one, r1, ?_, fun e => by have := HL2.out eb e; omega, hE2.ge, r3⟩, (HT2.out.mono (by simp)).trans hT3 (fun k hk => .inl hk), HL2.out⟩
      have ho := Frm.owns_turn HO2.out hT3 (fun k hk e => by simp at e; subst e; have := HL2.out k hk; omega)
      rw [resCells_append, ← HLE.out]
      have e1 : (l ++ [(⟨x, y, z⟩ : Res)]).length = n + 1 := by rw [HLE.out, HNE.out]; simp
      dsimp only
      rw [e1]
      exact ho
  case rest =>
    obtain ⟨lv', hE3, hT3, hL3⟩ := hcut
    have HL3 := Lib.hid hL3
    clear hL3
    have hk3 := hT3.keep HB0.out (by simpa using fun e => hkb.1 e.symm)
    have hk4 := hT3.keep HB1.out (by simpa using fun e => hkb.2 e.symm)
    have q0 := (Frm.cell_row _ _ 0 _ _ _ hk3).trans (show (#[Value.int .u64 x, .bool y, .int .i64 z])[0]? = some (.int .u64 x) from rfl)
    have q1 := (Frm.cell_row _ _ 1 _ _ _ hk3).trans (show (#[Value.int .u64 x, .bool y, .int .i64 z])[1]? = some (.bool y) from rfl)
    have q2 := (Frm.cell_row _ _ 2 _ _ _ hk3).trans (show (#[Value.int .u64 x, .bool y, .int .i64 z])[2]? = some (.int .i64 z) from rfl)
    have f0 := Frm.frozen_row _ _ 0 _ _ hk4
    have f1 := Frm.frozen_row _ _ 1 _ _ hk4
    have f2 := Frm.frozen_row _ _ 2 _ _ hk4
    have p0 := (Frm.cell_row _ _ 0 _ _ _ hk4).trans (show (#[Value.int .u64 0, .bool false, .int .i64 0])[0]? = some (.int .u64 0) from rfl)
    have p1 := (Frm.cell_row _ _ 1 _ _ _ hk4).trans (show (#[Value.int .u64 0, .bool false, .int .i64 0])[1]? = some (.bool false) from rfl)
    have p2 := (Frm.cell_row _ _ 2 _ _ _ hk4).trans (show (#[Value.int .u64 0, .bool false, .int .i64 0])[2]? = some (.int .i64 0) from rfl)
    have HE3 := Lib.hid hE3
    have HT3 := Lib.hid hT3
    have HK4 := Lib.hid hk4
    clear hE3 hT3 hk3 hk4
    go_wp2
    obtain ⟨s1, s2⟩ := put_res0 _ _ _ _ _ (.int .u64 x) (.bool y) (.int .i64 z) HK4.out
    have hld := load_res s1
    have hT := ((HW0.out.mono (by simp)).trans HT3.out (fun k hk => .inl hk)).trans s2 (fun k hk => .inr (by have := HKB.out; simp at hk; omega))
    refine bodyPost_ret (v := resV ⟨x, y, z⟩) (by simp [results, Tryz.results123, asAddr, hld, Act.put, resV]) rfl ⟨rfl, lv', HE3.out.turn s2 (by simpa using hkb.2) (fun k hk => by have := HGL.out k hk; simp; omega) (fun k hk => by have := HL3.out k hk; simp; omega), hT, fun k hk => by have := HL3.out k hk; have := HKB.out; omega⟩
end Evn
end Go.Proofs.YtlghinjggkgfmaaGreat

set_option linter.unusedVariables false
set_option linter.unusedSimpArgs false
namespace Go.Proofs.YtlghinjggkgfmaaGreat
namespace Evn
open Go.RowKit Go.Maps Arn

def z20 : Array Value := #[.int .i64 0, .int .i64 0, .int .i64 0, .int .i64 0, .int .u64 0, .int .u64 0, .int .u64 0, .int .u64 0, .int .u64 0, .int .u64 0, .int .u64 0, .int .u64 0, .int .u64 0, .slice none 0 0, .int .i64 0, .int .i64 0, .int .i64 0, .int .i64 0, .int .i64 0, .int .i64 0]
theorem cells_turn (g : Nat) : ∀ (vs : List Value) (o : Nat) (w : World), Frm.Turn [g] w (w.setCells g o vs)
  | [], _, w => Frm.Turn.refl [g] w
  | v :: r, o, w => by
    rw [World.setCells]
    exact ((Frm.Turn.refl [g] w).setCell (.inl (by simp)) _).trans (cells_turn g r (o + 1) _) (fun k hk => .inl hk)
theorem cells_mid {g : Nat} {t : TypeId} (C : List Value) : ∀ (vs A B : List Value) (w : World), w.heap[g]? = some (.cells (A ++ B ++ C).toArray t (0, 0)) → B.length = vs.length → (w.setCells g A.length vs).heap[g]? = some (.cells (A ++ vs ++ C).toArray t (0, 0))
  | [], A, B, w, h, e => by
    obtain rfl : B = [] := List.eq_nil_of_length_eq_zero (by simpa using e)
    exact h
  | v :: r, A, [], w, h, e => by simp at e
  | v :: r, A, b :: B, w, h, e => by
    rw [World.setCells]
    have h1 := Frm.heap_set w g A.length _ _ _ v h
    have e1 : (A ++ b :: B ++ C).toArray.setIfInBounds A.length v = ((A ++ [v]) ++ B ++ C).toArray := by
      rw [List.setIfInBounds_toArray]
      congr 1
      simp
    rw [e1] at h1
    have := cells_mid C r (A ++ [v]) B _ h1 (by simpa using e)
    simpa using this
variable {W W' : World} {eb : Nat} {E : En} {CS CS' : Array Value} {lv : Value} {G G' : List Nat}
theorem EnAt.range (h : EnAt W eb E CS lv G) : W.rangeAt eb 0 CS.toList := fun j v hv => by
  rw [Nat.zero_add]
  refine (Frm.cell_row _ _ _ _ _ _ h.row).trans ?_
  have hj : j < CS.size := by
    have := (List.getElem?_eq_some_iff.1 hv).1
    simpa using this
  rw [Array.getElem?_append_left hj]
  simpa using hv
theorem EnAt.there (h : EnAt W eb E CS lv G) : W.there eb 0 20 := fun j hj => by
  rw [Nat.zero_add]
  refine ⟨?_, Frm.frozen_row _ _ _ _ _ h.row⟩
  rw [Frm.cell_row _ _ _ _ _ _ h.row, Array.getElem?_append_left (by rw [h.size]; exact hj)]
  rw [Array.getElem?_eq_getElem (by rw [h.size]; exact hj)]
  rfl
/-- The arena that an access made stands in the environment. -/
theorem EnAt.putM (h : EnAt W eb E CS lv G) {A' : Ar} (hs : CS'.size = 20) (h1 : CS'.all (·.oneCell') = true) (hr : RefS W A' (.agg CS') G') (hg : eb ∉ G') (hl : ∀ k, k ∈ G' → k < W.heap.size) :
    EnAt (W.setCells eb 0 CS'.toList) eb { E with A := A' } CS' lv G' ∧ Frm.Turn [eb] W (W.setCells eb 0 CS'.toList) := by
  have hT := cells_turn eb CS'.toList 0 W
  refine ⟨⟨?_, hs, h1, hr.turn hT (fun k hk e => by simp at e; subst e; exact hg hk), (h.rest hT).2.1, h.le, hg, fun k hk => by have := hl k hk; have := hT.size; omega⟩, hT⟩
  have hrow := h.row
  have := cells_mid (g := eb) (t := 77) [lv, .int .i64 (E.at_ : Int), .bool E.did, .bool E.stop] CS'.toList [] CS.toList W (by rw [hrow]; congr 2; apply Array.toList_inj.1; simp) (by simp [h.size, hs])
  refine this.trans ?_
  congr 2
  apply Array.toList_inj.1
  simp
/-- What a callee made goes into a new block, and from there into the environment. -/
theorem put_all {w1 w2 : World} {A' : Ar} (h1 : EnAt w1 eb E CS lv G) (hT : Frm.Turn [] w1 w2) (hs : CS'.size = 20) (ho : CS'.all (·.oneCell') = true) (hr : RefS w2 A' (.agg CS') G') (hG : ∀ q, q ∈ G' → q ∈ G ∨ (w1.heap.size ≤ q ∧ q < w2.heap.size)) :
    ((w2.alloc (.cells z20 67)).setRow w2.heap.size CS').heap[w2.heap.size]? = some (.cells CS' 67 (0, 0)) ∧
    EnAt ((w2.alloc (.cells z20 67)).setRow w2.heap.size CS') eb E CS lv G ∧
    EnAt (((w2.alloc (.cells z20 67)).setRow w2.heap.size CS').setCells eb 0 CS'.toList) eb { E with A := A' } CS' lv G' ∧
    Frm.Turn [eb] w1 (((w2.alloc (.cells z20 67)).setRow w2.heap.size CS').setCells eb 0 CS'.toList) := by
  rw [World.setRow_alloc_new]
  have hT3 : Frm.Turn [] w1 (w2.alloc (.cells CS' 67)) := hT.alloc _
  have hE3 := h1.step hT3
  have hlt := h1.lt
  have hsz := hT.size
  have hg : eb ∉ G' := fun hk => by
    rcases hG eb hk with h | h
    · exact h1.ge h
    · omega
  have hl : ∀ k, k ∈ G' → k < (w2.alloc (.cells CS' 67)).heap.size := fun k hk => by
    rw [World.size_alloc]
    rcases hG k hk with h | h
    · have := h1.gl k h; omega
    · omega
  obtain ⟨p1, p2⟩ := hE3.putM hs ho (hr.turn ((Frm.Turn.refl [] w2).alloc _) (by simp)) hg hl
  exact ⟨World.alloc_heap_new _ _, hE3, p1, (hT3.mono (by simp)).trans p2 (fun k hk => .inl hk)⟩
end Evn
end Go.Proofs.YtlghinjggkgfmaaGreat
