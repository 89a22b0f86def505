/- A gear that runs a machine, whichever lies behind the interface. -/
/- A gear that runs a machine, beside an arena and parts. -/
/- A gear that is to run a machine that is done already. -/
import Derived.Test.YtpajafecodkndaaGreatPaceCall
import Derived.RangeFuncBox
import Derived.Lib.Hide
import Derived.Deep.RegionHeld
import Derived.Deep.CutBlock
import Derived.Test.YtpajafecodkndaaGreatHoldKit
set_option linter.unusedVariables false
set_option linter.unusedSimpArgs false
namespace Go.Proofs.YtpajafecodkndaaGreat
namespace Pac
open Go.RowKit Go.Maps

theorem enters_gisdone : Enters Tryz.prog 146 := enters_of Tryz.func146 (by kernel_rfl) rfl
theorem enters_grun : Enters Tryz.prog 124 := enters_of Tryz.func124 (by kernel_rfl) rfl
/-- A machine behind an interface, and which functions its methods are. -/
structure IsM (T : TypeId) (p : Value) (fs fd : FuncId) : Prop where
  some : ∀ w : World, (binOp BinOp.eql 221 (.iface T p) .nilIface).run Tryz.prog w = .ok (.bool false) w
  done : ∀ (n : Nat) (w : World), (method (n + 1) T p "Done").run Tryz.prog w = .ok (fd, p) w
  step : ∀ (n : Nat) (w : World), (method (n + 1) T p "Step").run Tryz.prog w = .ok (fs, p) w
  es : Enters Tryz.prog fs
  ed : Enters Tryz.prog fd
variable {W : World} {mb db wb gb tb g : Nat} {T : TypeId} {p th old : Value} {fs fd : FuncId} {z : Bool}
set_option maxRecDepth 10000 in
theorem gisDone1_any (M : IsM T p fs fd) (c1 : W.cell? ⟨mb, 0, none⟩ = some (.iface T p)) (c2 : W.cell? ⟨db, 0, none⟩ = some (.bool true)) (f2 : W.frozen? ⟨db, 0, none⟩ = false) (hz : Calls Tryz.prog fd #[p] W fun e w' => e = .returned (.bool z) ∧ W = w') :
    Calls Tryz.prog 146 #[.pointer (some ⟨mb, 0, none⟩), .pointer (some ⟨db, 0, none⟩)] W fun e w' => e = .returned (.tuple #[]) ∧ w' = W.setCell ⟨db, 0, none⟩ (.bool z) := by
  have h1 := M.some
  have h3 : ∀ (args : Array Value) (w : World), (callFunc fd args).run Tryz.prog w = .ok (.enter fd args) w := M.ed
  have h4 : ∀ (n : Nat) (w : World), (method (n + 1) T p "Done").run Tryz.prog w = .ok (fd, p) w := M.done
  have HZ := Lib.hid hz
  clear hz M
  go_enter Tryz.func146, Tryz.ntmps146
  go_wp2_with fail
  refine (HZ.out).mono ?_
  rintro e w1 ⟨rfl, rfl⟩
  go_wp2
  go_end0
  exact ⟨rfl, rfl⟩
theorem gisDone_any (M : IsM T p fs fd) (hz : ∀ W', Frm.Turn [] W W' → Calls Tryz.prog fd #[p] W' fun e w' => e = .returned (.bool z) ∧ W' = w') :
    Calls Tryz.prog 123 #[.iface T p] W fun e w' => e = .returned (.bool z) ∧ Frm.Turn [] W w' := by
  have hb1 : Boxed ((W.alloc (.cells #[.iface T p] 221)).alloc (.cells #[.bool true] 4)) W.heap.size 221 (.iface T p) := (Boxed.new W _ _).alloc _
  have hb2 : Boxed ((W.alloc (.cells #[.iface T p] 221)).alloc (.cells #[.bool true] 4)) (W.heap.size + 1) 4 (.bool true) := by
    have := Boxed.new (W.alloc (.cells #[.iface T p] 221)) 4 (.bool true)
    rwa [World.size_alloc] at this
  have h1 := gisDone1_any M hb1.cell hb2.cell hb2.frozen (hz _ (((Frm.Turn.refl [] W).alloc _).alloc _))
  have h2 := call_fn (g := 146) #[] #[.pointer (some ⟨W.heap.size, 0, none⟩), .pointer (some ⟨W.heap.size + 1, 0, none⟩)] _ (R := fun w' => w' = ((W.alloc (.cells #[.iface T p] 221)).alloc (.cells #[.bool true] 4)).setCell ⟨W.heap.size + 1, 0, none⟩ (.bool z)) enters_gisdone h1
  have H := Lib.hid h2
  have hmk := hmf
  clear h1 h2 hb1 hb2 hz M
  go_enter Tryz.func123, Tryz.ntmps123
  go_wp2_with (go_at_call 115; (with_reducible refine (H.out).mono ?_); rintro e w1 ⟨rfl, rfl⟩)
  go_ret
  exact ⟨rfl, by repeat (first | exact Frm.Turn.refl _ _ | apply Frm.Turn.alloc)⟩
/-- What Run makes besides: three boxes. -/
def runW3 (W : World) (g : Nat) (T : TypeId) (p th : Value) : World := (((W.alloc (.cells #[.pointer (some ⟨g, 0, none⟩)] 203)).alloc (.cells #[.iface T p] 221)).alloc (.cells #[th] 1))
def grunV (wb mb gb tb : Nat) : Value := .func (.func 124) #[] #[.pointer (some ⟨wb, 0, none⟩), .pointer (some ⟨mb, 0, none⟩), .pointer (some ⟨gb, 0, none⟩), .pointer (some ⟨tb, 0, none⟩)]
/-- Run of a machine that isn't done. -/
theorem grun_some {fn : Fn} {fi ca : Array Value} (M : IsM T p fs fd) (cg : W.cell? ⟨g, 0, none⟩ = some old) (fg : W.frozen? ⟨g, 0, none⟩ = false) (hlt : g < W.heap.size) (hz : ∀ W', Frm.Turn [] W W' → Calls Tryz.prog fd #[p] W' fun e w' => e = .returned (.bool false) ∧ W' = w') :
    Calls Tryz.prog 95 #[.pointer (some ⟨g, 0, none⟩), .iface T p, .func fn fi ca] W
      fun e w' => e = .returned (.tuple #[]) ∧ ∃ w2, Frm.Turn [] (runW3 W g T p (.func fn fi ca)) w2 ∧ w' = (w2.alloc (.cells #[.bool false] 4)).setCell ⟨g, 0, none⟩ (grunV w2.heap.size (W.heap.size + 1) W.heap.size (W.heap.size + 1 + 1)) := by
  have HD := Lib.hid (fun W1 (hT : Frm.Turn [] W W1) => gisDone_any (W := W1) (z := false) M (fun W' hT' => hz W' (hT.trans hT' (by simp))))
  have HTO := Lib.hid (fun (W1 : World) (v : Value) (hT : Frm.Turn [] W W1) (hv : IsFn v) => to_any g v old W1 hv (hT.cell cg (by simp)) ((hT.frozen hlt (by simp)).trans fg))
  have hmk := hmf
  clear cg fg hz M hlt
  go_enter Tryz.func95, Tryz.ntmps95
  go_upto_region 4 with (go_at_call 123; go_loud ((with_reducible refine (HD.out _ ((((Frm.Turn.refl [] W).alloc _).alloc _).alloc _)).mono ?_); rintro e w2 ⟨rfl, hT⟩; have HR2 : Hid (Frm.Turn [] (runW3 W g T p (.func fn fi ca)) w2) := Lib.hid hT; have HT2 := Lib.hid ((((Frm.Turn.refl [] W).alloc (.cells #[.pointer (some ⟨g, 0, none⟩)] 203)).alloc (.cells #[.iface T p] 221)).alloc (.cells #[.func fn fi ca] 1) |>.trans hT (by simp)); have ct : ∀ ob, (w2.alloc ob).cell? ⟨W.heap.size, 0, none⟩ = some (.pointer (some ⟨g, 0, none⟩)) := (fun ob => (hT.alloc ob).cell (by simp [go_sem]) (by simp)); clear hT))
  go_wp2_with (first
    | (go_at_call 66; (with_reducible refine (HTO.out _ _ (HT2.out.alloc _) (isFn_func _ _ _)).mono ?_); rintro e w3 ⟨rfl, rfl⟩))
  go_end0
  exact ⟨rfl, _, HR2.out, rfl⟩
/-- A step of the gear: the machine's own, and more is left. -/
theorem grun_more {P : World → Prop} (M : IsM T p fs fd) (cw : W.cell? ⟨wb, 0, none⟩ = some (.bool false)) (fw : W.frozen? ⟨wb, 0, none⟩ = false) (cm : W.cell? ⟨mb, 0, none⟩ = some (.iface T p)) (hne : wb ≠ mb)
    (hs : Calls Tryz.prog fs #[p] (W.setCell ⟨wb, 0, none⟩ (.bool true)) fun e w' => e = .returned (.tuple #[]) ∧ P w') (hp : ∀ w1, P w1 → w1.cell? ⟨wb, 0, none⟩ = some (.bool true) ∧ w1.frozen? ⟨wb, 0, none⟩ = false ∧ w1.cell? ⟨mb, 0, none⟩ = some (.iface T p))
    (hd : ∀ w1, P w1 → ∀ W', Frm.Turn [] (w1.setCell ⟨wb, 0, none⟩ (.bool false)) W' → Calls Tryz.prog fd #[p] W' fun e w' => e = .returned (.bool false) ∧ W' = w') :
    Calls Tryz.prog 124 #[.pointer (some ⟨wb, 0, none⟩), .pointer (some ⟨mb, 0, none⟩), .pointer (some ⟨gb, 0, none⟩), .pointer (some ⟨tb, 0, none⟩)] W fun e w' => e = .returned (.tuple #[]) ∧ ∃ w1, P w1 ∧ Frm.Turn [] (w1.setCell ⟨wb, 0, none⟩ (.bool false)) w' := by
  have HC := Lib.hid (call_meth p p _ M.es M.step hs)
  have HD := Lib.hid (fun w1 (h : P w1) => gisDone_any (W := w1.setCell ⟨wb, 0, none⟩ (.bool false)) (z := false) M (hd w1 h))
  have HP := Lib.hid hp
  have cm1 : (W.setCell ⟨wb, 0, none⟩ (.bool true)).cell? ⟨mb, 0, none⟩ = some (.iface T p) := by rw [World.cell?_setCell_far _ _ _ _ hne]; exact cm
  have HM : Hid (∀ w1 : World, w1.cell? ⟨mb, 0, none⟩ = some (.iface T p) → (w1.setCell ⟨wb, 0, none⟩ (.bool false)).cell? ⟨mb, 0, none⟩ = some (.iface T p)) := Lib.hid fun w1 h => by rw [World.cell?_setCell_far _ _ _ _ hne]; exact h
  have hmk := hmf
  clear hs hd hp M hne
  go_enter Tryz.func124, Tryz.ntmps124
  go_wp2_with (first
    | (go_at_call 115; (with_reducible refine (HC.out).mono ?_); rintro e w1 ⟨rfl, hg⟩; obtain ⟨dw, gw, dm0⟩ := HP.out _ hg; have dm := HM.out _ dm0; have HG := Lib.hid hg; clear hg)
    | (go_at_call 123; (with_reducible refine (HD.out _ HG.out).mono ?_); rintro e w2 ⟨rfl, hg⟩; have HG2 := Lib.hid hg; clear hg))
  go_end0
  exact ⟨rfl, _, HG.out, HG2.out⟩
/-- .. the last one: what comes behind it is called at once. -/
theorem grun_last {P Q : World → Prop} (M : IsM T p fs fd) (cw : W.cell? ⟨wb, 0, none⟩ = some (.bool false)) (fw : W.frozen? ⟨wb, 0, none⟩ = false) (cm : W.cell? ⟨mb, 0, none⟩ = some (.iface T p)) (hne : wb ≠ mb) (hgb : wb ≠ gb) (htb : wb ≠ tb) (hgt : g ≠ tb)
    (hs : Calls Tryz.prog fs #[p] (W.setCell ⟨wb, 0, none⟩ (.bool true)) fun e w' => e = .returned (.tuple #[]) ∧ P w')
    (hp : ∀ w1, P w1 → w1.cell? ⟨wb, 0, none⟩ = some (.bool true) ∧ w1.frozen? ⟨wb, 0, none⟩ = false ∧ w1.cell? ⟨mb, 0, none⟩ = some (.iface T p) ∧ w1.cell? ⟨gb, 0, none⟩ = some (.pointer (some ⟨g, 0, none⟩)) ∧ w1.cell? ⟨tb, 0, none⟩ = some th)
    (hd : ∀ w1, P w1 → ∀ W', Frm.Turn [] (w1.setCell ⟨wb, 0, none⟩ (.bool false)) W' → Calls Tryz.prog fd #[p] W' fun e w' => e = .returned (.bool true) ∧ W' = w')
    (hg : ∀ w1, P w1 → ∀ W', Frm.Turn [] (w1.setCell ⟨wb, 0, none⟩ (.bool false)) W' → ∃ x, W'.cell? ⟨g, 0, none⟩ = some x ∧ W'.frozen? ⟨g, 0, none⟩ = false)
    (ht : ∀ w1, P w1 → ∀ W', Frm.Turn [] (w1.setCell ⟨wb, 0, none⟩ (.bool false)) W' → Calls Tryz.prog 115 #[th] (W'.setCell ⟨g, 0, none⟩ .nilFunc) fun e w' => e = .returned (.tuple #[]) ∧ Q w') :
    Calls Tryz.prog 124 #[.pointer (some ⟨wb, 0, none⟩), .pointer (some ⟨mb, 0, none⟩), .pointer (some ⟨gb, 0, none⟩), .pointer (some ⟨tb, 0, none⟩)] W fun e w' => e = .returned (.tuple #[]) ∧ Q w' := by
  have HC := Lib.hid (call_meth p p _ M.es M.step hs)
  have HD := Lib.hid (fun w1 (h : P w1) => gisDone_any (W := w1.setCell ⟨wb, 0, none⟩ (.bool false)) (z := true) M (hd w1 h))
  have HP := Lib.hid hp
  have cm1 : (W.setCell ⟨wb, 0, none⟩ (.bool true)).cell? ⟨mb, 0, none⟩ = some (.iface T p) := by rw [World.cell?_setCell_far _ _ _ _ hne]; exact cm
  have HM : Hid (∀ (w1 : World) (q : Nat) (v : Value), wb ≠ q → w1.cell? ⟨q, 0, none⟩ = some v → (w1.setCell ⟨wb, 0, none⟩ (.bool false)).cell? ⟨q, 0, none⟩ = some v) := Lib.hid fun w1 q v hq h => by rw [World.cell?_setCell_far _ _ _ _ hq]; exact h
  have HN := Lib.hid (And.intro hne (And.intro hgb (And.intro htb hgt)))
  have HE : Hid (∀ w1 w2, P w1 → Frm.Turn [] (w1.setCell ⟨wb, 0, none⟩ (.bool false)) w2 → Calls Tryz.prog 125 #[.pointer (some ⟨g, 0, none⟩)] w2 fun e w' => e = .returned (.tuple #[]) ∧ w' = w2.setCell ⟨g, 0, none⟩ .nilFunc) := Lib.hid fun w1 w2 h1 h2 => by
    obtain ⟨x, hx, hf⟩ := hg w1 h1 w2 h2
    exact end_any g x w2 hx hf
  have HT := Lib.hid ht
  have hmk := hmf
  clear hs hd hp hg ht M hne hgb htb hgt
  go_enter Tryz.func124, Tryz.ntmps124
  go_wp2_with (first
    | (go_at_call 115; (with_reducible refine (HC.out).mono ?_); rintro e w1 ⟨rfl, hg⟩; obtain ⟨dw, gw, dm0, dg0, dt0⟩ := HP.out _ hg; have dm := HM.out _ _ _ HN.out.1 dm0; have dg := HM.out _ _ _ HN.out.2.1 dg0; have DT := Lib.hid (HM.out _ _ _ HN.out.2.2.1 dt0); clear dt0; have HG := Lib.hid hg; clear hg)
    | (go_at_call 123; (with_reducible refine (HD.out _ HG.out).mono ?_); rintro e w2 ⟨rfl, hg⟩; have HG2 := Lib.hid hg; have eg := hg.cell dg (by simp); have et : (w2.setCell ⟨g, 0, none⟩ .nilFunc).cell? ⟨tb, 0, none⟩ = some th := (by rw [World.cell?_setCell_far _ _ _ _ HN.out.2.2.2]; exact hg.cell DT.out (by simp)); clear hg)
    | (go_at_call 125; (with_reducible refine (HE.out _ _ HG.out HG2.out).mono ?_); rintro e w3 ⟨rfl, rfl⟩)
    | (go_at_call 115; (with_reducible refine (HT.out _ HG.out _ HG2.out).mono ?_); rintro e w4 ⟨rfl, hg⟩; have HG4 := Lib.hid hg; clear hg))
  go_end0
  exact ⟨rfl, HG4.out⟩
end Pac
end Go.Proofs.YtpajafecodkndaaGreat

set_option linter.unusedVariables false
set_option linter.unusedSimpArgs false
namespace Go.Proofs.YtpajafecodkndaaGreat
namespace Pac
open Go.RowKit Go.Maps Arn Clm Cnt Sta Hld

variable {w W W' : World} {b k k' r wb mb gb tb : Nat} {A A' : Ar} {ps : List Part} {T t : TypeId} {p th g : Value} {l : List Value} {fs fd : FuncId} {wi : Bool} {mp : Part}
/-- Run's boxes, and whose gear it is. -/
def runL (r : Nat) (l : List Value) (t T : TypeId) (p th : Value) (wb mb gb tb : Nat) (wi : Bool) (g : Value) : List Part :=
  [bkP wb (.cells #[.bool wi] 4), bkP mb (.cells #[.iface T p] 221), bkP gb (.cells #[.pointer (some ⟨r, 0, none⟩)] 203), bkP tb (.cells #[th] 1), bkP r (.cells (g :: l).toArray t)]
theorem cell1 {x : Nat} {v : Value} {t : TypeId} (S : Stash w b A k ps W) (hm : bkP x (.cells #[v] t) ∈ ps) : W.cell? ⟨x, 0, none⟩ = some v := cell_h (i := 0) (l := [v]) S hm rfl
theorem thaw1 {x : Nat} {v : Value} {t : TypeId} (S : Stash w b A k ps W) (hm : bkP x (.cells #[v] t) ∈ ps) : W.frozen? ⟨x, 0, none⟩ = false := thaw_h (i := 0) (l := [v]) S hm
theorem poke1 {x : Nat} {v u : Value} {t : TypeId} (S : Stash w b A k (bkP x (.cells #[v] t) :: ps) W) : Stash w b A k (bkP x (.cells #[u] t) :: ps) (W.setCell ⟨x, 0, none⟩ u) := poke_h (i := 0) (l := [v]) u S
/-- What lies beside one another has blocks of its own. -/
theorem bk_ne {x y : Nat} {o o' : Obj} {l1 l2 l3 : List Part} (S : Stash w b A k (l1 ++ bkP x o :: l2 ++ bkP y o' :: l3) W) : x ≠ y := by
  have h := S.off
  rw [List.append_assoc] at h
  have h2 := (List.pairwise_append.1 h).2.1
  have h3 := (List.pairwise_cons.1 h2).1 (bkP y o') (by simp)
  rintro rfl
  exact (h3.1 x (by simp [bkP])).1 (by simp [bkP])
theorem runL_ne {qs : List Part} (S : Stash w b A k (runL r l t T p th wb mb gb tb wi g ++ qs) W) : wb ≠ mb ∧ wb ≠ gb ∧ wb ≠ tb ∧ r ≠ tb := by
  refine ⟨?_, ?_, ?_, fun e => ?_⟩
  · exact bk_ne (l1 := []) (l2 := []) S
  · exact bk_ne (l1 := []) (l2 := [_]) S
  · exact bk_ne (l1 := []) (l2 := [_, _]) S
  · exact bk_ne (l1 := [_, _, _]) (l2 := []) S e.symm
/-- Run of a machine that isn't done. -/
theorem run_s {fn : Fn} {fi ca : Array Value} (M : IsM T p fs fd) (S : Stash w b A k (bkP r (.cells (g :: l).toArray t) :: ps) W) (hd : ∀ W', Frm.Turn [] W W' → Calls Tryz.prog fd #[p] W' fun e w' => e = .returned (.bool false) ∧ W' = w') :
    Calls Tryz.prog 95 #[.pointer (some ⟨r, 0, none⟩), .iface T p, .func fn fi ca] W fun e w' => e = .returned (.tuple #[]) ∧ ∃ wb mb gb tb, Stash w b A k (runL r l t T p (.func fn fi ca) wb mb gb tb false (grunV wb mb gb tb) ++ ps) w' := by
  have hlt := S.lt (p := bkP r (.cells (g :: l).toArray t)) (List.mem_cons_self ..) (x := r) (in_own (by simp [bkP]))
  refine (grun_some M (cell_h (i := 0) S (List.mem_cons_self ..) rfl) (thaw_h (i := 0) S (List.mem_cons_self ..)) hlt hd).mono ?_
  rintro e w' ⟨he, w2, hT, rfl⟩
  refine ⟨he, w2.heap.size, W.heap.size + 1, W.heap.size, W.heap.size + 1 + 1, ?_⟩
  have S1 := add_h S (.cells #[.pointer (some ⟨r, 0, none⟩)] 203) (World.alloc_heap_new _ _)
  have S2 := add_h S1 (.cells #[.iface T p] 221) (World.alloc_heap_new _ _)
  have S3 := add_h S2 (.cells #[.func fn fi ca] 1) (World.alloc_heap_new _ _)
  have S4 := S3.still hT
  have S5 := add_h S4 (.cells #[.bool false] 4) (World.alloc_heap_new _ _)
  simp only [World.size_alloc] at S5
  have S6 := S5.perm (qs := bkP r (.cells (g :: l).toArray t) :: ([bkP w2.heap.size (.cells #[.bool false] 4), bkP (W.heap.size + 1 + 1) (.cells #[.func fn fi ca] 1), bkP (W.heap.size + 1) (.cells #[.iface T p] 221), bkP W.heap.size (.cells #[.pointer (some ⟨r, 0, none⟩)] 203)] ++ ps)) (List.perm_middle (l₁ := [_, _, _, _]))
  have S7 := poke_h (i := 0) (grunV w2.heap.size (W.heap.size + 1) W.heap.size (W.heap.size + 1 + 1)) S6
  refine S7.perm ?_
  unfold runL
  refine (List.Perm.symm (List.perm_middle (l₁ := [_, _, _, _]))).trans ?_
  refine List.Perm.cons _ ?_
  refine (List.Perm.swap _ _ _).trans (List.Perm.cons _ ?_)
  exact (List.Perm.swap _ _ _)
/-- A step while more is left. -/
theorem run_more_s {Q : Part → Prop} (M : IsM T p fs fd) (S : Stash w b A k (runL r l t T p th wb mb gb tb false (grunV wb mb gb tb) ++ mp :: ps) W)
    (hs : ∀ qs W1, Stash w b A k (mp :: qs) W1 → Calls Tryz.prog fs #[p] W1 fun e w' => e = .returned (.tuple #[]) ∧ ∃ mp', Q mp' ∧ Stash w b A' k' (mp' :: qs) w')
    (hd : ∀ mp' qs W1, Q mp' → Stash w b A' k' qs W1 → mp' ∈ qs → Calls Tryz.prog fd #[p] W1 fun e w' => e = .returned (.bool false) ∧ W1 = w') :
    Calls Tryz.prog 73 #[.pointer (some ⟨r, 0, none⟩)] W fun e w' => e = .returned (.tuple #[]) ∧ ∃ mp', Q mp' ∧ Stash w b A' k' (runL r l t T p th wb mb gb tb false (grunV wb mb gb tb) ++ mp' :: ps) w' := by
  obtain ⟨n1, n2, n3, n4⟩ := runL_ne S
  have hw : ∀ {wi : Bool} {qs : List Part}, bkP wb (.cells #[.bool wi] 4) ∈ runL r l t T p th wb mb gb tb wi (grunV wb mb gb tb) ++ qs := List.mem_cons_self ..
  have hm : ∀ {wi : Bool} {qs : List Part}, bkP mb (.cells #[.iface T p] 221) ∈ runL r l t T p th wb mb gb tb wi (grunV wb mb gb tb) ++ qs := List.mem_cons_of_mem _ (List.mem_cons_self ..)
  have hr : ∀ {wi : Bool} {qs : List Part}, bkP r (.cells (grunV wb mb gb tb :: l).toArray t) ∈ runL r l t T p th wb mb gb tb wi (grunV wb mb gb tb) ++ qs := List.mem_append_left _ (by simp [runL])
  refine gstep_any r (grunV wb mb gb tb) W (cell_h (i := 0) S hr rfl) ?_
  have S1 : Stash w b A k (runL r l t T p th wb mb gb tb true (grunV wb mb gb tb) ++ mp :: ps) (W.setCell ⟨wb, 0, none⟩ (.bool true)) := poke1 S
  refine call_fn #[] _ W enters_grun ?_
  refine (grun_more (P := fun w1 => ∃ mp', Q mp' ∧ Stash w b A' k' (runL r l t T p th wb mb gb tb true (grunV wb mb gb tb) ++ mp' :: ps) w1) M (cell1 S hw) (thaw1 S hw) (cell1 S hm) n1 ?_ ?_ ?_).mono ?_
  · refine (hs _ _ (S1.perm List.perm_middle)).mono ?_
    rintro e w' ⟨he, mp', hq, S2⟩
    exact ⟨he, mp', hq, S2.perm List.perm_middle.symm⟩
  · rintro w1 ⟨mp', hq, S2⟩
    exact ⟨cell1 S2 hw, thaw1 S2 hw, cell1 S2 hm⟩
  · rintro w1 ⟨mp', hq, S2⟩ W' hT
    have S3 : Stash w b A' k' (runL r l t T p th wb mb gb tb false (grunV wb mb gb tb) ++ mp' :: ps) (w1.setCell ⟨wb, 0, none⟩ (.bool false)) := poke1 S2
    exact hd mp' _ W' hq (S3.still hT) (List.mem_append_right _ (List.mem_cons_self ..))
  · rintro e w' ⟨he, w1, ⟨mp', hq, S2⟩, hT⟩
    have S3 : Stash w b A' k' (runL r l t T p th wb mb gb tb false (grunV wb mb gb tb) ++ mp' :: ps) (w1.setCell ⟨wb, 0, none⟩ (.bool false)) := poke1 S2
    exact ⟨he, mp', hq, S3.still hT⟩
/-- The last step: what comes behind it is called. -/
theorem run_last_s {Q : Part → Prop} {R : World → Prop} (M : IsM T p fs fd) (S : Stash w b A k (runL r l t T p th wb mb gb tb false (grunV wb mb gb tb) ++ mp :: ps) W)
    (hs : ∀ qs W1, Stash w b A k (mp :: qs) W1 → Calls Tryz.prog fs #[p] W1 fun e w' => e = .returned (.tuple #[]) ∧ ∃ mp', Q mp' ∧ Stash w b A' k' (mp' :: qs) w')
    (hd : ∀ mp' qs W1, Q mp' → Stash w b A' k' qs W1 → mp' ∈ qs → Calls Tryz.prog fd #[p] W1 fun e w' => e = .returned (.bool true) ∧ W1 = w')
    (ht : ∀ mp' W1, Q mp' → Stash w b A' k' (bkP r (.cells (.nilFunc :: l).toArray t) :: mp' :: ps) W1 → Calls Tryz.prog 115 #[th] W1 fun e w' => e = .returned (.tuple #[]) ∧ R w') :
    Calls Tryz.prog 73 #[.pointer (some ⟨r, 0, none⟩)] W fun e w' => e = .returned (.tuple #[]) ∧ R w' := by
  obtain ⟨n1, n2, n3, n4⟩ := runL_ne S
  have hw : ∀ {wi : Bool} {g : Value} {qs : List Part}, bkP wb (.cells #[.bool wi] 4) ∈ runL r l t T p th wb mb gb tb wi g ++ qs := List.mem_cons_self ..
  have hm : ∀ {wi : Bool} {g : Value} {qs : List Part}, bkP mb (.cells #[.iface T p] 221) ∈ runL r l t T p th wb mb gb tb wi g ++ qs := List.mem_cons_of_mem _ (List.mem_cons_self ..)
  have hg : ∀ {wi : Bool} {g : Value} {qs : List Part}, bkP gb (.cells #[.pointer (some ⟨r, 0, none⟩)] 203) ∈ runL r l t T p th wb mb gb tb wi g ++ qs := List.mem_append_left _ (by simp [runL])
  have htb : ∀ {wi : Bool} {g : Value} {qs : List Part}, bkP tb (.cells #[th] 1) ∈ runL r l t T p th wb mb gb tb wi g ++ qs := List.mem_append_left _ (by simp [runL])
  have hr : ∀ {wi : Bool} {g : Value} {qs : List Part}, bkP r (.cells (g :: l).toArray t) ∈ runL r l t T p th wb mb gb tb wi g ++ qs := List.mem_append_left _ (by simp [runL])
  refine gstep_any r (grunV wb mb gb tb) W (cell_h (i := 0) S hr rfl) ?_
  have S1 : Stash w b A k (runL r l t T p th wb mb gb tb true (grunV wb mb gb tb) ++ mp :: ps) (W.setCell ⟨wb, 0, none⟩ (.bool true)) := poke1 S
  refine call_fn #[] _ W enters_grun ?_
  refine grun_last (g := r) (th := th) (Q := R) (P := fun w1 => ∃ mp', Q mp' ∧ Stash w b A' k' (runL r l t T p th wb mb gb tb true (grunV wb mb gb tb) ++ mp' :: ps) w1) M (cell1 S hw) (thaw1 S hw) (cell1 S hm) n1 n2 n3 n4 ?_ ?_ ?_ ?_ ?_
  · refine (hs _ _ (S1.perm List.perm_middle)).mono ?_
    rintro e w' ⟨he, mp', hq, S2⟩
    exact ⟨he, mp', hq, S2.perm List.perm_middle.symm⟩
  · rintro w1 ⟨mp', hq, S2⟩
    exact ⟨cell1 S2 hw, thaw1 S2 hw, cell1 S2 hm, cell1 S2 hg, cell1 S2 htb⟩
  · rintro w1 ⟨mp', hq, S2⟩ W' hT
    have S3 : Stash w b A' k' (runL r l t T p th wb mb gb tb false (grunV wb mb gb tb) ++ mp' :: ps) (w1.setCell ⟨wb, 0, none⟩ (.bool false)) := poke1 S2
    exact hd mp' _ W' hq (S3.still hT) (List.mem_append_right _ (List.mem_cons_self ..))
  · rintro w1 ⟨mp', hq, S2⟩ W' hT
    have S3 : Stash w b A' k' (runL r l t T p th wb mb gb tb false (grunV wb mb gb tb) ++ mp' :: ps) (w1.setCell ⟨wb, 0, none⟩ (.bool false)) := poke1 S2
    have S4 := S3.still hT
    exact ⟨_, cell_h (i := 0) S4 hr rfl, thaw_h (i := 0) S4 hr⟩
  · rintro w1 ⟨mp', hq, S2⟩ W' hT
    have S3 : Stash w b A' k' (runL r l t T p th wb mb gb tb false (grunV wb mb gb tb) ++ mp' :: ps) (w1.setCell ⟨wb, 0, none⟩ (.bool false)) := poke1 S2
    have S4 := (S3.still hT).drop.drop.drop.drop
    exact ht mp' _ hq (poke_h (i := 0) .nilFunc S4)
end Pac
end Go.Proofs.YtpajafecodkndaaGreat

set_option linter.unusedVariables false
set_option linter.unusedSimpArgs false
namespace Go.Proofs.YtpajafecodkndaaGreat
namespace Pac
open Go.RowKit Go.Maps Arn Clm Cnt Sta Hld

variable {W : World} {g : Nat} {T : TypeId} {p : Value} {fs fd : FuncId}
theorem grun_none {R : World → Prop} {fn : Fn} {fi ca : Array Value} (M : IsM T p fs fd) (hz : ∀ W', Frm.Turn [] W W' → Calls Tryz.prog fd #[p] W' fun e w' => e = .returned (.bool true) ∧ W' = w') (ht : ∀ W', Frm.Turn [] W W' → Calls Tryz.prog 115 #[.func fn fi ca] W' fun e w' => e = .returned (.tuple #[]) ∧ R w') :
    Calls Tryz.prog 95 #[.pointer (some ⟨g, 0, none⟩), .iface T p, .func fn fi ca] W fun e w' => e = .returned (.tuple #[]) ∧ R w' := by
  have HD := Lib.hid (fun W1 (hT : Frm.Turn [] W W1) => gisDone_any (W := W1) (z := true) M (fun W' hT' => hz W' (hT.trans hT' (by simp))))
  have HT := Lib.hid ht
  clear hz ht M
  go_enter Tryz.func95, Tryz.ntmps95
  go_wp2_with (first
    | (go_at_call 123; (with_reducible refine (HD.out _ ((((Frm.Turn.refl [] W).alloc _).alloc _).alloc _)).mono ?_); rintro e w2 ⟨rfl, hT⟩; have HT2 := Lib.hid ((((Frm.Turn.refl [] W).alloc (.cells #[.pointer (some ⟨g, 0, none⟩)] 203)).alloc (.cells #[.iface T p] 221)).alloc (.cells #[.func fn fi ca] 1) |>.trans hT (by simp)); have ct : w2.cell? ⟨W.heap.size + 1 + 1, 0, none⟩ = some (.func fn fi ca) := (hT.cell (by simp [go_sem]) (by simp)); clear hT)
    | (go_at_call 115; (with_reducible refine (HT.out _ HT2.out).mono ?_); rintro e w3 ⟨rfl, hR⟩))
  refine bodyPost_ret (results_none rfl _ _ _) rfl ?_
  exact ⟨rfl, hR⟩
end Pac
end Go.Proofs.YtpajafecodkndaaGreat
