/- The document's environment in memory. -/
import Derived.Test.YtolcpfidmpoipaaGreatEnvTie
import Derived.Test.YtolcpfidmpoipaaGreatArenaRefAll
import Derived.Deep.MidRow
import Derived.Deep.RegionWith
import Derived.Deep.QuietTactic
import Derived.BigQuiet
import Derived.RangeFuncRecord
set_option linter.unusedVariables false
set_option linter.unusedSimpArgs false
namespace Go.Proofs.YtolcpfidmpoipaaGreat
namespace Evn
open Go.RowKit Go.Maps Arn

def resCells (l : List Res) : List Value := l.flatMap fun r => [.int .u64 r.w, .bool r.ok, .int .i64 r.e]
theorem resCells_length (l : List Res) : (resCells l).length = l.length * 3 := by
  induction l with
  | nil => rfl
  | cons x t ih => simp only [resCells, List.flatMap_cons, List.length_append, List.length_cons, List.length_nil] at ih ⊢; omega
theorem resCells_append (l r : List Res) : resCells (l ++ r) = resCells l ++ resCells r := by simp [resCells]
theorem resCells_get : ∀ (l : List Res) (i : Nat), i < l.length → (resCells l)[i * 3]? = some (.int .u64 (l.getD i Res.zero).w) ∧ (resCells l)[i * 3 + 1]? = some (.bool (l.getD i Res.zero).ok) ∧ (resCells l)[i * 3 + 2]? = some (.int .i64 (l.getD i Res.zero).e) := by
  intro l
  induction l with
  | nil => intro i hi; simp at hi
  | cons x t ih =>
    intro i hi
    cases i with
    | zero => simp [resCells]
    | succ i =>
      have h := ih i (by simpa using hi)
      have e : ∀ j, (resCells (x :: t))[j + 3]? = (resCells t)[j]? := fun j => by simp [resCells]
      rw [show (i + 1) * 3 = i * 3 + 3 by omega, show i * 3 + 3 + 1 = (i * 3 + 1) + 3 by omega, show i * 3 + 3 + 2 = (i * 3 + 2) + 3 by omega, e, e, e]
      simpa using h
/-- An environment: its arena's cells CS, its row lv of answers; G: where the arena lies. -/
structure EnAt (W : World) (eb : Nat) (E : En) (CS : Array Value) (lv : Value) (G : List Nat) : Prop where
  row : W.heap[eb]? = some (.cells (CS ++ #[lv, .int .i64 (E.at_ : Int), .bool E.did, .bool E.stop]) 41 (0, 0))
  size : CS.size = 20
  one : CS.all (·.oneCell') = true
  m : RefS W E.A (.agg CS) G
  log : W.ownsRow 0 110 3 lv E.log.length (resCells E.log)
  le : lv.ownBlock ≠ some eb
  ge : eb ∉ G
  gl : ∀ k, k ∈ G → k < W.heap.size
variable {W W' : World} {eb : Nat} {E : En} {CS : Array Value} {lv : Value} {G : List Nat}
theorem EnAt.lt (h : EnAt W eb E CS lv G) : eb < W.heap.size := (Array.getElem?_eq_some_iff.1 h.row).1
theorem EnAt.cells (h : EnAt W eb E CS lv G) : W.cell? ⟨eb, 20, none⟩ = some lv ∧ W.cell? ⟨eb, 21, none⟩ = some (.int .i64 (E.at_ : Int)) ∧ W.cell? ⟨eb, 22, none⟩ = some (.bool E.did) ∧ W.cell? ⟨eb, 23, none⟩ = some (.bool E.stop) := by
  have hs := h.size
  refine ⟨?_, ?_, ?_, ?_⟩ <;> (rw [Frm.cell_row _ _ _ _ _ _ h.row, Array.getElem?_append_right (by omega), hs]; rfl)
theorem EnAt.thaw (h : EnAt W eb E CS lv G) (i : Nat) : W.frozen? ⟨eb, i, none⟩ = false := Frm.frozen_row _ _ _ _ _ h.row
theorem EnAt.step (h : EnAt W eb E CS lv G) (ht : Frm.Turn [] W W') : EnAt W' eb E CS lv G :=
  ⟨ht.keep h.row (by simp), h.size, h.one, h.m.turn ht (by simp), Frm.owns_turn h.log ht (by simp), h.le, h.ge, fun k hk => by have := h.gl k hk; have := ht.size; omega⟩
theorem EnAt.turn {F : List Nat} (h : EnAt W eb E CS lv G) (ht : Frm.Turn F W W') (h1 : eb ∉ F) (h2 : ∀ k, k ∈ G → k ∉ F) (h3 : ∀ k, lv.ownBlock = some k → k ∉ F) : EnAt W' eb E CS lv G :=
  ⟨ht.keep h.row h1, h.size, h.one, h.m.turn ht h2, Frm.owns_turn h.log ht h3, h.le, h.ge, fun k hk => by have := h.gl k hk; have := ht.size; omega⟩
theorem turn_eb (W : World) (eb i : Nat) (v : Value) : Frm.Turn [eb] W (W.setCell ⟨eb, i, none⟩ v) := (Frm.Turn.refl _ W).setCell (p := ⟨eb, i, none⟩) (.inl (by simp)) v
/-- What lies there when the environment's own block alone turns. -/
theorem EnAt.rest (h : EnAt W eb E CS lv G) (ht : Frm.Turn [eb] W W') : RefS W' E.A (.agg CS) G ∧ W'.ownsRow 0 110 3 lv E.log.length (resCells E.log) ∧ ∀ k, k ∈ G → k < W'.heap.size :=
  ⟨h.m.turn ht (fun k hk e => by simp at e; subst e; exact h.ge hk), Frm.owns_turn h.log ht (fun k hk e => by simp at e; subst e; exact h.le hk), fun k hk => by have := h.gl k hk; have := ht.size; omega⟩
/-- Behind steps that turn the environment's own block, and new ones, alone. -/
theorem EnAt.moved (h : EnAt W eb E CS lv G) (ht : Frm.Turn [eb] W W') (E' : En) (hA : E'.A = E.A) (hL : E'.log = E.log) (hr : W'.heap[eb]? = some (.cells (CS ++ #[lv, .int .i64 (E'.at_ : Int), .bool E'.did, .bool E'.stop]) 41 (0, 0))) : EnAt W' eb E' CS lv G := by
  obtain ⟨r1, r2, r3⟩ := h.rest ht
  exact ⟨hr, h.size, h.one, by rw [hA]; exact r1, by rw [hL]; exact r2, h.le, h.ge, r3⟩
/-- An answer is put into the result's block. -/
theorem put_res (w : World) (k n : Nat) (a b c x y z : Value) (h : w.heap[k]? = some (.cells #[a, b, c] 110 (0, 0))) :
    ((((w.drewN n).setCell ⟨k, 0, none⟩ x).setCell ⟨k, 1, none⟩ y).setCell ⟨k, 2, none⟩ z).heap[k]? = some (.cells #[x, y, z] 110 (0, 0)) ∧ Frm.Turn [k] w ((((w.drewN n).setCell ⟨k, 0, none⟩ x).setCell ⟨k, 1, none⟩ y).setCell ⟨k, 2, none⟩ z) := by
  have h1 : (w.drewN n).heap[k]? = some (.cells #[a, b, c] 110 (0, 0)) := h
  refine ⟨Frm.heap_set _ k 2 _ _ _ z (Frm.heap_set _ k 1 _ _ _ y (Frm.heap_set _ k 0 _ _ _ x h1)), ?_⟩
  exact ((((Frm.Turn.refl [k] w).drewN n).setCell (p := ⟨k, 0, none⟩) (.inl (by simp)) _).setCell (p := ⟨k, 1, none⟩) (.inl (by simp)) _).setCell (p := ⟨k, 2, none⟩) (.inl (by simp)) _
theorem put_res0 (w : World) (k : Nat) (a b c x y z : Value) (h : w.heap[k]? = some (.cells #[a, b, c] 110 (0, 0))) :
    (((w.setCell ⟨k, 0, none⟩ x).setCell ⟨k, 1, none⟩ y).setCell ⟨k, 2, none⟩ z).heap[k]? = some (.cells #[x, y, z] 110 (0, 0)) ∧ Frm.Turn [k] w (((w.setCell ⟨k, 0, none⟩ x).setCell ⟨k, 1, none⟩ y).setCell ⟨k, 2, none⟩ z) := put_res w k 0 a b c x y z h
theorem app_set (CS : Array Value) (a b c d v : Value) (hs : CS.size = 20) : (CS ++ #[a, b, c, d]).setIfInBounds 21 v = CS ++ #[a, v, c, d] ∧ (CS ++ #[a, b, c, d]).setIfInBounds 22 v = CS ++ #[a, b, v, d] ∧ (CS ++ #[a, b, c, d]).setIfInBounds 23 v = CS ++ #[a, b, c, v] ∧ (CS ++ #[a, b, c, d]).setIfInBounds 20 v = CS ++ #[v, b, c, d] := by
  refine ⟨?_, ?_, ?_, ?_⟩ <;> (rw [Array.setIfInBounds_append_right (by omega), hs]; rfl)
theorem EnAt.setAt (h : EnAt W eb E CS lv G) (n : Nat) : EnAt (W.setCell ⟨eb, 21, none⟩ (.int .i64 (n : Int))) eb { E with at_ := n } CS lv G := by
  obtain ⟨r1, r2, r3⟩ := h.rest (turn_eb W eb 21 (.int .i64 (n : Int)))
  exact ⟨by rw [Frm.heap_set _ _ _ _ _ _ _ h.row, (app_set CS _ _ _ _ _ h.size).1], h.size, h.one, r1, r2, h.le, h.ge, r3⟩
theorem EnAt.setDid (h : EnAt W eb E CS lv G) (x : Bool) : EnAt (W.setCell ⟨eb, 22, none⟩ (.bool x)) eb { E with did := x } CS lv G := by
  obtain ⟨r1, r2, r3⟩ := h.rest (turn_eb W eb 22 (.bool x))
  exact ⟨by rw [Frm.heap_set _ _ _ _ _ _ _ h.row, (app_set CS _ _ _ _ _ h.size).2.1], h.size, h.one, r1, r2, h.le, h.ge, r3⟩
theorem EnAt.setStop (h : EnAt W eb E CS lv G) (x : Bool) : EnAt (W.setCell ⟨eb, 23, none⟩ (.bool x)) eb { E with stop := x } CS lv G := by
  obtain ⟨r1, r2, r3⟩ := h.rest (turn_eb W eb 23 (.bool x))
  exact ⟨by rw [Frm.heap_set _ _ _ _ _ _ _ h.row, (app_set CS _ _ _ _ _ h.size).2.2.1], h.size, h.one, r1, r2, h.le, h.ge, r3⟩
theorem under_res : structB (Tryz.prog.underlying 110) = true := by kernel_rfl
theorem info_res : (Tryz.prog.info? 110).map (·.size) = some 3 := by kernel_rfl
theorem load_res {W : World} {k : Nat} {x y z : Value} (h : W.heap[k]? = some (.cells #[x, y, z] 110 (0, 0))) : (loadVar 110 ⟨k, 0, none⟩).run Tryz.prog W = .ok (.agg #[x, y, z]) W := by
  obtain ⟨fs, hfs⟩ := struct_of under_res
  exact run_loadVar_row W k _ _ #[x, y, z] (0, 0) (.struct fs) h hfs rfl info_res
def resV (r : Res) : Value := .agg #[.int .u64 r.w, .bool r.ok, .int .i64 r.e]
/-- Behind old. -/
def OldPost (W : World) (eb : Nat) (E : En) (CS : Array Value) (lv : Value) (G : List Nat) (r : Res) (bo : Bool) (E' : En) (e : Ending) (w' : World) : Prop :=
  e = .returned (.tuple #[resV r, .bool bo]) ∧ EnAt w' eb E' CS lv G ∧ Frm.Turn [eb] W w'
set_option maxRecDepth 100000 in
set_option maxHeartbeats 1000000 in
theorem old_stop (h : EnAt W eb E CS lv G) (hs : E.stop = true) : Calls Tryz.prog 52 #[.pointer (some ⟨eb, 0, none⟩)] W (OldPost W eb E CS lv G Res.zero true E) := by
  have h1 := fun o => (h.step ((Frm.Turn.refl [] W).alloc o)).cells
  have c3 : ∀ o, (W.alloc o).cell? ⟨eb, 23, none⟩ = some (.bool true) := fun o => by rw [← hs]; exact (h1 o).2.2.2
  have HH := Lib.hid h
  clear h h1
  go_enter Tryz.func52, Tryz.ntmps52
  go_wp2
  have hld := load_res (World.alloc_heap_new W (.cells #[.int .u64 0, .bool false, .int .i64 0] 110))
  exact bodyPost_ret (v := .tuple #[resV Res.zero, .bool true]) (by simp [results, Tryz.results52, asAddr, hld, Act.put, resV, Res.zero]) rfl ⟨rfl, HH.out.step ((Frm.Turn.refl [] W).alloc _), (Frm.Turn.refl [eb] W).alloc _⟩
theorem EnAt.logCells (h : EnAt W eb E CS lv G) {i : Nat} (hi : i < E.log.length) : ∃ g c, lv = .slice (some ⟨g, 0, none⟩) E.log.length c ∧ W.cell? ⟨g, i * 3, none⟩ = some (.int .u64 (E.log.getD i Res.zero).w) ∧ W.cell? ⟨g, i * 3 + 1, none⟩ = some (.bool (E.log.getD i Res.zero).ok) ∧ W.cell? ⟨g, i * 3 + 2, none⟩ = some (.int .i64 (E.log.getD i Res.zero).e) := by
  have hl := h.log
  rcases hl.2 with ⟨_, e2⟩ | ⟨g, c, cur, rfl, _⟩
  · omega
  · obtain ⟨e1, e2, e3⟩ := resCells_get E.log i hi
    exact ⟨g, c, rfl, (hl.cellAt _ (by omega)).trans e1, (hl.cellAt _ (by omega)).trans e2, (hl.cellAt _ (by omega)).trans e3⟩
set_option maxRecDepth 100000 in
set_option maxHeartbeats 2000000 in
theorem old_again (h : EnAt W eb E CS lv G) (hs : E.stop = false) (hi : E.at_ < E.log.length) (hl : E.log.length ≤ 100000) : Calls Tryz.prog 52 #[.pointer (some ⟨eb, 0, none⟩)] W (OldPost W eb E CS lv G (E.log.getD E.at_ Res.zero) true { E with at_ := E.at_ + 1 }) := by
  have h1 := h.step ((Frm.Turn.refl [] W).alloc (.cells #[.int .u64 0, .bool false, .int .i64 0] 110))
  have h2 := h1.setAt (E.at_ + 1)
  have hn := World.alloc_heap_new W (.cells #[.int .u64 0, .bool false, .int .i64 0] 110)
  have hne : W.heap.size ≠ eb := by have := h.lt; omega
  obtain ⟨_, c1, _, c3⟩ := h1.cells
  rw [hs] at c3
  have f1 := h1.thaw 21
  obtain ⟨d0, d1, d2, d3⟩ := h2.cells
  obtain ⟨g, lc, hlv, e0, e1, e2⟩ := h2.logCells hi
  dsimp only at hlv e0 e1 e2 d1
  subst hlv
  have ej : ((E.at_ + 1 : Nat) : Int) = (E.at_ : Int) + 1 := by omega
  have hT2 : Frm.Turn [eb] W ((W.alloc (.cells #[.int .u64 0, .bool false, .int .i64 0] 110)).setCell ⟨eb, 21, none⟩ (.int .i64 ((E.at_ + 1 : Nat) : Int))) := ((Frm.Turn.refl [eb] W).alloc _).setCell (p := ⟨eb, 21, none⟩) (.inl (by simp)) _
  have hn2 := (turn_eb (W.alloc (.cells #[.int .u64 0, .bool false, .int .i64 0] 110)) eb 21 (.int .i64 ((E.at_ + 1 : Nat) : Int))).keep hn (by simpa using hne)
  rw [ej] at d0 d1 e0 e1 e2 h2 hT2 hn2
  have H2 := Lib.hid h2
  have HT2 := Lib.hid hT2
  have HN2 := Lib.hid hn2
  have HEN := Lib.hid h
  have HNE := Lib.hid hne
  have q0 : (E.at_ : Int) < (E.log.length : Int) := by omega
  have q1 : (E.at_ : Int) ≤ 100000 := by omega
  have q2 : (E.log.length : Int) ≤ 100000 := by omega
  have q3 : (E.at_ : Int) + 1 ≤ (E.log.length : Int) := by omega
  clear h h1 h2 hT2 hn2 hn hs hi hl ej hne d2 d3
  generalize E.log.getD E.at_ Res.zero = r at e0 e1 e2 ⊢
  obtain ⟨x, y, z⟩ := r
  dsimp only at e0 e1 e2
  go_enter Tryz.func52, Tryz.ntmps52
  go_wp2
  go_quiet (fail)
  go_wp2
  go_region
  all_goals go_wp2
  all_goals
    obtain ⟨p1, p2⟩ := put_res _ _ (nq + 1) _ _ _ (.int .u64 x) (.bool y) (.int .i64 z) HN2.out
    have hld := load_res p1
    have hT := HT2.out.trans p2 (fun k hk => .inr (by simp at hk; omega))
    refine bodyPost_ret (v := .tuple #[resV ⟨x, y, z⟩, .bool true]) (by simp [results, Tryz.results52, asAddr, hld, Act.put, resV]) rfl ⟨rfl, HEN.out.moved hT _ rfl rfl (p2.keep H2.out.row (by simpa using fun e => HNE.out e.symm)), hT⟩
set_option maxRecDepth 100000 in
set_option maxHeartbeats 2000000 in
/-- Nothing is left to be answered again, and nothing was done yet. -/
theorem old_new (h : EnAt W eb E CS lv G) (hs : E.stop = false) (hi : E.log.length ≤ E.at_) (hd : E.did = false) (hl : E.at_ ≤ 100000) : Calls Tryz.prog 52 #[.pointer (some ⟨eb, 0, none⟩)] W (OldPost W eb E CS lv G Res.zero false { E with at_ := E.at_ + 1, did := true }) := by
  have h1 := h.step ((Frm.Turn.refl [] W).alloc (.cells #[.int .u64 0, .bool false, .int .i64 0] 110))
  have h2 := h1.setAt (E.at_ + 1)
  have hn := World.alloc_heap_new W (.cells #[.int .u64 0, .bool false, .int .i64 0] 110)
  have hne : W.heap.size ≠ eb := by have := h.lt; omega
  obtain ⟨_, c1, _, c3⟩ := h1.cells
  rw [hs] at c3
  have f1 := h1.thaw 21
  have f2 := h2.thaw 22
  obtain ⟨d0, d1, d2, d3⟩ := h2.cells
  dsimp only at d1 d2 d3
  rw [hd] at d2
  rw [hs] at d3
  have ej : ((E.at_ + 1 : Nat) : Int) = (E.at_ : Int) + 1 := by omega
  have HR : Hid (∀ n, ((((W.alloc (.cells #[.int .u64 0, .bool false, .int .i64 0] 110)).setCell ⟨eb, 21, none⟩ (.int .i64 ((E.at_ : Int) + 1))).drewN n).setCell ⟨eb, 22, none⟩ (.bool true)).heap[eb]? = some (.cells (CS ++ #[lv, .int .i64 ((E.at_ + 1 : Nat) : Int), .bool true, .bool false]) 41 (0, 0))) := Lib.hid fun n => by
    have hr := h2.row
    dsimp only at hr
    rw [hs, hd, ej] at hr
    have hr' : (((W.alloc (.cells #[.int .u64 0, .bool false, .int .i64 0] 110)).setCell ⟨eb, 21, none⟩ (.int .i64 ((E.at_ : Int) + 1))).drewN n).heap[eb]? = _ := hr
    rw [Frm.heap_set _ _ _ _ _ _ _ hr', (app_set CS _ _ _ _ _ h.size).2.1, ej]
  have HT : Hid (∀ n, Frm.Turn [eb] W ((((W.alloc (.cells #[.int .u64 0, .bool false, .int .i64 0] 110)).setCell ⟨eb, 21, none⟩ (.int .i64 ((E.at_ : Int) + 1))).drewN n).setCell ⟨eb, 22, none⟩ (.bool true))) := Lib.hid fun n => ((((Frm.Turn.refl [eb] W).alloc _).setCell (p := ⟨eb, 21, none⟩) (.inl (by simp)) _).drewN n).setCell (p := ⟨eb, 22, none⟩) (.inl (by simp)) _
  have HN : Hid (∀ n, ((((W.alloc (.cells #[.int .u64 0, .bool false, .int .i64 0] 110)).setCell ⟨eb, 21, none⟩ (.int .i64 ((E.at_ : Int) + 1))).drewN n).setCell ⟨eb, 22, none⟩ (.bool true)).heap[W.heap.size]? = some (.cells #[.int .u64 0, .bool false, .int .i64 0] 110 (0, 0))) := Lib.hid fun n => ((((Frm.Turn.refl [eb] (W.alloc (.cells #[.int .u64 0, .bool false, .int .i64 0] 110))).setCell (p := ⟨eb, 21, none⟩) (.inl (by simp)) _).drewN n).setCell (p := ⟨eb, 22, none⟩) (.inl (by simp)) _).keep hn (by simpa using hne)
  rw [ej] at d0 d1 d2 d3 f2
  have HEN := Lib.hid h
  have HNE := Lib.hid hne
  have HS := Lib.hid hs
  have HD := Lib.hid hd
  obtain ⟨ao, c, hlv⟩ := Frm.row_form h.log
  subst hlv
  have q0 : (E.log.length : Int) ≤ (E.at_ : Int) := by omega
  have q1 : (E.at_ : Int) ≤ 100000 := by omega
  clear h h1 h2 hn hs hd hi hl ej hne
  go_enter Tryz.func52, Tryz.ntmps52
  go_wp2
  go_quiet (fail)
  go_wp2
  obtain ⟨p1, p2⟩ := put_res0 _ _ _ _ _ (.int .u64 0) (.bool false) (.int .i64 0) (HN.out nq)
  have hld := load_res p1
  have hT := (HT.out nq).trans p2 (fun k hk => .inr (by simp at hk; omega))
  have hr := p2.keep (HR.out nq) (by simpa using fun e => HNE.out e.symm)
  refine bodyPost_ret (v := .tuple #[resV Res.zero, .bool false]) (by simp [results, Tryz.results52, asAddr, hld, Act.put, resV, Res.zero]) rfl ⟨rfl, HEN.out.moved hT _ rfl rfl ?_, hT⟩
  dsimp only
  first | rw [HS.out] | rw [HD.out]
  exact hr
set_option maxRecDepth 100000 in
set_option maxHeartbeats 2000000 in
/-- Nothing is left, and one access was done: here it stops. -/
theorem old_past (h : EnAt W eb E CS lv G) (hs : E.stop = false) (hi : E.log.length ≤ E.at_) (hd : E.did = true) (hl : E.at_ ≤ 100000) : Calls Tryz.prog 52 #[.pointer (some ⟨eb, 0, none⟩)] W (OldPost W eb E CS lv G Res.zero true { E with at_ := E.at_ + 1, stop := true }) := by
  have h1 := h.step ((Frm.Turn.refl [] W).alloc (.cells #[.int .u64 0, .bool false, .int .i64 0] 110))
  have h2 := h1.setAt (E.at_ + 1)
  have hn := World.alloc_heap_new W (.cells #[.int .u64 0, .bool false, .int .i64 0] 110)
  have hne : W.heap.size ≠ eb := by have := h.lt; omega
  obtain ⟨_, c1, _, c3⟩ := h1.cells
  rw [hs] at c3
  have f1 := h1.thaw 21
  have f2 := h2.thaw 23
  obtain ⟨d0, d1, d2, d3⟩ := h2.cells
  dsimp only at d1 d2 d3
  rw [hd] at d2
  rw [hs] at d3
  have ej : ((E.at_ + 1 : Nat) : Int) = (E.at_ : Int) + 1 := by omega
  have HR : Hid (∀ n, ((((W.alloc (.cells #[.int .u64 0, .bool false, .int .i64 0] 110)).setCell ⟨eb, 21, none⟩ (.int .i64 ((E.at_ : Int) + 1))).drewN n).setCell ⟨eb, 23, none⟩ (.bool true)).heap[eb]? = some (.cells (CS ++ #[lv, .int .i64 ((E.at_ + 1 : Nat) : Int), .bool true, .bool true]) 41 (0, 0))) := Lib.hid fun n => by
    have hr := h2.row
    dsimp only at hr
    rw [hs, hd, ej] at hr
    have hr' : (((W.alloc (.cells #[.int .u64 0, .bool false, .int .i64 0] 110)).setCell ⟨eb, 21, none⟩ (.int .i64 ((E.at_ : Int) + 1))).drewN n).heap[eb]? = _ := hr
    rw [Frm.heap_set _ _ _ _ _ _ _ hr', (app_set CS _ _ _ _ _ h.size).2.2.1, ej]
  have HT : Hid (∀ n, Frm.Turn [eb] W ((((W.alloc (.cells #[.int .u64 0, .bool false, .int .i64 0] 110)).setCell ⟨eb, 21, none⟩ (.int .i64 ((E.at_ : Int) + 1))).drewN n).setCell ⟨eb, 23, none⟩ (.bool true))) := Lib.hid fun n => ((((Frm.Turn.refl [eb] W).alloc _).setCell (p := ⟨eb, 21, none⟩) (.inl (by simp)) _).drewN n).setCell (p := ⟨eb, 23, none⟩) (.inl (by simp)) _
  have HN : Hid (∀ n, ((((W.alloc (.cells #[.int .u64 0, .bool false, .int .i64 0] 110)).setCell ⟨eb, 21, none⟩ (.int .i64 ((E.at_ : Int) + 1))).drewN n).setCell ⟨eb, 23, none⟩ (.bool true)).heap[W.heap.size]? = some (.cells #[.int .u64 0, .bool false, .int .i64 0] 110 (0, 0))) := Lib.hid fun n => ((((Frm.Turn.refl [eb] (W.alloc (.cells #[.int .u64 0, .bool false, .int .i64 0] 110))).setCell (p := ⟨eb, 21, none⟩) (.inl (by simp)) _).drewN n).setCell (p := ⟨eb, 23, none⟩) (.inl (by simp)) _).keep hn (by simpa using hne)
  rw [ej] at d0 d1 d2 d3 f2
  have HEN := Lib.hid h
  have HNE := Lib.hid hne
  have HS := Lib.hid hs
  have HD := Lib.hid hd
  obtain ⟨ao, c, hlv⟩ := Frm.row_form h.log
  subst hlv
  have q0 : (E.log.length : Int) ≤ (E.at_ : Int) := by omega
  have q1 : (E.at_ : Int) ≤ 100000 := by omega
  clear h h1 h2 hn hs hd hi hl ej hne
  go_enter Tryz.func52, Tryz.ntmps52
  go_wp2
  go_quiet (fail)
  go_wp2
  obtain ⟨p1, p2⟩ := put_res0 _ _ _ _ _ (.int .u64 0) (.bool false) (.int .i64 0) (HN.out nq)
  have hld := load_res p1
  have hT := (HT.out nq).trans p2 (fun k hk => .inr (by simp at hk; omega))
  have hr := p2.keep (HR.out nq) (by simpa using fun e => HNE.out e.symm)
  refine bodyPost_ret (v := .tuple #[resV Res.zero, .bool true]) (by simp [results, Tryz.results52, asAddr, hld, Act.put, resV, Res.zero]) rfl ⟨rfl, HEN.out.moved hT _ rfl rfl ?_, hT⟩
  dsimp only
  first | rw [HS.out] | rw [HD.out]
  exact hr
/-- old, in one form. -/
theorem old_any (h : EnAt W eb E CS lv G) (hl : E.log.length ≤ 100000) (ha : E.at_ ≤ 100000) : Calls Tryz.prog 52 #[.pointer (some ⟨eb, 0, none⟩)] W (OldPost W eb E CS lv G E.oldR E.oldB E.oldE) := by
  unfold En.oldR En.oldB En.oldE
  by_cases hs : E.stop = true
  · simp only [if_pos hs]
    exact old_stop h hs
  · simp only [if_neg hs]
    have hs : E.stop = false := by simpa using hs
    by_cases hi : E.at_ < E.log.length
    · simp only [if_pos hi]
      exact old_again h hs hi hl
    · simp only [if_neg hi]
      by_cases hd : E.did = true
      · simp only [if_pos hd]
        have hp := old_past h hs (by omega) hd ha
        rw [hd] at hp ⊢
        exact hp
      · simp only [if_neg hd]
        have hd : E.did = false := by simpa using hd
        rw [hd]
        exact old_new h hs (by omega) hd ha
end Evn
end Go.Proofs.YtolcpfidmpoipaaGreat
