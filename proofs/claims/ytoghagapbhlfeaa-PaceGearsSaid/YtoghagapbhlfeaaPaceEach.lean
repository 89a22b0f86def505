/- PaceGears: what its gear does at each step, and what it begins to run. -/
import Derived.Test.YtoghagapbhlfeaaPaceRun
import Derived.OwnWalk
set_option linter.unusedVariables false
set_option linter.unusedSimpArgs false
namespace Go.Proofs.Ytoghagapbhlfeaa
namespace Pac
open Go.RowKit Go.Maps Arn

theorem zero_cells : ∀ (n j : Nat) (u : Value), (addrCells (List.replicate n (0, 0)))[j]? = some u → j < n * 2 ∧ u = if j % 2 = 0 then .int .u64 0 else .int .i64 0 := by
  intro n
  induction n with
  | zero => intro j u h; simp [addrCells] at h
  | succ n ih =>
    intro j u h
    rw [List.replicate_succ] at h
    match j, h with
    | 0, h => simp [addrCells] at h; exact ⟨by omega, by simp [h]⟩
    | 1, h => simp [addrCells] at h; exact ⟨by omega, by simp [h]⟩
    | j + 2, h =>
      rw [addrCells_cons] at h
      obtain ⟨h1, h2⟩ := ih j u h
      have e : (j + 2) % 2 = j % 2 := by omega
      rw [e]
      exact ⟨by omega, h2⟩
theorem zero_addrs {w : World} {g n : Nat} (hn : n ≤ 1000000) (h : w.ownsRow 0 34 2 (.slice (some ⟨g, 0, none⟩) n n) n (madeCells (Value.agg #[.int .u64 0, .int .i64 0]).cells (n * 2)).toList) : AddrsAt w (.slice (some ⟨g, 0, none⟩) n n) (List.replicate n (0, 0)) := by
  refine .inr ⟨g, 0, n, by simp, by simp, by unfold maxLen; omega, fun j u hu => ?_⟩
  obtain ⟨h1, h2⟩ := zero_cells n j u hu
  have := World.ownsRow.cells h rfl j u (by
    simp [madeCells, h1, Value.cells]
    rw [h2]
    have h3 : j % 2 = 0 ∨ j % 2 = 1 := by omega
    rcases h3 with h3 | h3 <;> rw [h3] <;> rfl)
  rwa [add_at] at this

/-- The six boxes of PaceGears. -/
structure Bs where
  N : Nat
  K : Nat
  A : Nat
  G : Nat
  D : Nat
  R : Nat
def Bs.all (B : Bs) : List Nat := [B.N, B.K, B.A, B.G, B.D, B.R]
def eachV (B : Bs) : Value := .func (.func 42) #[] #[.pointer (some ⟨B.D, 0, none⟩), .pointer (some ⟨B.N, 0, none⟩), .pointer (some ⟨B.G, 0, none⟩), .pointer (some ⟨B.A, 0, none⟩), .pointer (some ⟨B.K, 0, none⟩), .pointer (some ⟨B.R, 0, none⟩)]
structure Box6 (w : World) (b n k : Nat) (B : Bs) (did ran : Int) (nx : Value) (W : World) : Prop where
  bN : Boxed W B.N 5 (.int .u8 n)
  bK : Boxed W B.K 5 (.int .u8 k)
  bA : Boxed W B.A 25 (.pointer (some ⟨b, 0, none⟩))
  bG : Boxed W B.G 77 nx
  bD : Boxed W B.D 3 (.int .i64 did)
  bR : Boxed W B.R 3 (.int .i64 ran)
  ord : B.N < B.K ∧ B.K < B.A ∧ B.A < B.G ∧ B.G < B.D ∧ B.D < B.R
  low : w.heap.size ≤ B.N
variable {w W W' : World} {b n k : Nat} {B : Bs} {did ran : Int} {nx : Value}
theorem Box6.turn {F : List Nat} (h : Box6 w b n k B did ran nx W) (ht : Frm.Turn F W W') (hn : ∀ k, k ∈ B.all → k ∉ F) : Box6 w b n k B did ran nx W' := by
  have m : ∀ q, q ∈ B.all → q ∉ F := hn
  simp only [Bs.all] at m
  exact ⟨boxed_turn h.bN ht (m _ (by simp)), boxed_turn h.bK ht (m _ (by simp)), boxed_turn h.bA ht (m _ (by simp)), boxed_turn h.bG ht (m _ (by simp)), boxed_turn h.bD ht (m _ (by simp)), boxed_turn h.bR ht (m _ (by simp)), h.ord, h.low⟩
theorem Box6.setg (h : Box6 w b n k B did ran nx W) (x : Value) : Box6 w b n k B did ran x (W.setCell ⟨B.G, 0, none⟩ x) := by
  obtain ⟨o1, o2, o3, o4, o5⟩ := h.ord
  exact ⟨h.bN.other (by omega) _, h.bK.other (by omega) _, h.bA.other (by omega) _, h.bG.set _, h.bD.other (by omega) _, h.bR.other (by omega) _, h.ord, h.low⟩
theorem Box6.setd (h : Box6 w b n k B did ran nx W) (x : Int) : Box6 w b n k B x ran nx (W.setCell ⟨B.D, 0, none⟩ (.int .i64 x)) := by
  obtain ⟨o1, o2, o3, o4, o5⟩ := h.ord
  exact ⟨h.bN.other (by omega) _, h.bK.other (by omega) _, h.bA.other (by omega) _, h.bG.other (by omega) _, h.bD.set _, h.bR.other (by omega) _, h.ord, h.low⟩
theorem Box6.setr (h : Box6 w b n k B did ran nx W) (x : Int) : Box6 w b n k B did x nx (W.setCell ⟨B.R, 0, none⟩ (.int .i64 x)) := by
  obtain ⟨o1, o2, o3, o4, o5⟩ := h.ord
  exact ⟨h.bN.other (by omega) _, h.bK.other (by omega) _, h.bA.other (by omega) _, h.bG.other (by omega) _, h.bD.other (by omega) _, h.bR.set _, h.ord, h.low⟩
theorem Box6.lt (h : Box6 w b n k B did ran nx W) : ∀ q, q ∈ B.all → w.heap.size ≤ q ∧ q < W.heap.size := by
  intro q hq
  obtain ⟨o1, o2, o3, o4, o5⟩ := h.ord
  have := h.low
  have := h.bR.lt
  simp only [Bs.all, List.mem_cons, List.not_mem_nil, or_false] at hq
  omega
/-- PaceGears ahead of the machine. -/
structure G1 (w : World) (b n k : Nat) (B : Bs) (A : Ar) (did ran : Int) (nx : Value) (W : World) : Prop where
  box : Box6 w b n k B did ran nx W
  mach : Mach w b B.all A 0 Bare W
variable {A : Ar}
theorem G1.poke {did' ran' : Int} {nx' : Value} {q : Nat} {v : Value} (h : G1 w b n k B A did ran nx W) (hq : q ∈ B.all) (hb : Box6 w b n k B did' ran' nx' (W.setCell ⟨q, 0, none⟩ v)) : G1 w b n k B A did' ran' nx' (W.setCell ⟨q, 0, none⟩ v) :=
  ⟨hb, h.mach.own bare_stays (G := [q]) ((Frm.Turn.refl _ W).setCell (p := ⟨q, 0, none⟩) (.inl (by simp)) v) (fun k hk => by simp at hk; subst hk; exact .inl ⟨hq, (h.box.lt k hq).1⟩) (fun k hk => ⟨.inl hk, by have := (h.box.lt k hk).2; simpa using this⟩)⟩
theorem G1.step (h : G1 w b n k B A did ran nx W) (ht : Frm.Turn [] W W') : G1 w b n k B A did ran nx W' := ⟨h.box.turn ht (by simp), h.mach.step bare_stays ht⟩
/-- Run of a machine that is done. -/
theorem run_none {r : Nat} (hG : Boxed W B.G 77 nx) (hD : Boxed W B.D 3 (.int .i64 did)) (hR : Boxed W B.R 3 (.int .i64 ran)) (hz : ∀ W', Frm.Turn [] W W' → Calls Try.prog 56 #[.pointer (some ⟨r, 0, none⟩)] W' fun e w' => e = .returned (.bool true) ∧ W' = w') :
    Calls Try.prog 43 #[.pointer (some ⟨B.G, 0, none⟩), .iface 80 (.pointer (some ⟨r, 0, none⟩)), .func (.func 45) #[] #[.pointer (some ⟨B.D, 0, none⟩), .pointer (some ⟨B.R, 0, none⟩)]] W
      fun e w' => e = .returned (.tuple #[]) ∧ ∃ w2, Frm.Turn [] W w2 ∧ w' = w2.setCell ⟨B.R, 0, none⟩ (.int .i64 did) := by
  have HD := Lib.hid (fun W1 (hT : Frm.Turn [] W W1) => isDone_any (W := W1) (r := r) (z := true) (fun W' hT' => hz W' (hT.trans hT' (by simp))))
  have HT := Lib.hid (fun W1 (hT : Frm.Turn [] W W1) => call_fn (g := 45) #[] #[.pointer (some ⟨B.D, 0, none⟩), .pointer (some ⟨B.R, 0, none⟩)] W1 (R := fun w' => w' = W1.setCell ⟨B.R, 0, none⟩ (.int .i64 did)) enters_then (then_any (boxed_turn hD hT (by simp)) (boxed_turn hR hT (by simp))))
  clear hG hD hR hz
  go_enter Try.func43, Try.ntmps43
  go_wp2_with (first
    | (go_at_call 84; (with_reducible refine (HD.out _ ((((Frm.Turn.refl [] W).alloc _).alloc _).alloc _)).mono ?_); rintro e w2 ⟨rfl, hT⟩; have HT2 := Lib.hid ((((Frm.Turn.refl [] W).alloc (.cells #[.pointer (some ⟨B.G, 0, none⟩)] 130)).alloc (.cells #[.iface 80 (.pointer (some ⟨r, 0, none⟩))] 132)).alloc (.cells #[.func (.func 45) #[] #[.pointer (some ⟨B.D, 0, none⟩), .pointer (some ⟨B.R, 0, none⟩)]] 1) |>.trans hT (by simp)); have ct : w2.cell? ⟨W.heap.size + 1 + 1, 0, none⟩ = some (.func (.func 45) #[] #[.pointer (some ⟨B.D, 0, none⟩), .pointer (some ⟨B.R, 0, none⟩)]) := (hT.cell (by simp [go_sem]) (by simp)); clear hT)
    | (go_at_call 83; (with_reducible refine (HT.out _ HT2.out).mono ?_); rintro e w3 ⟨rfl, rfl⟩))
  refine bodyPost_ret (results_none rfl _ _ _) rfl ?_
  exact ⟨rfl, _, HT2.out, rfl⟩
/-- The world with Run's three boxes. -/
def runW (W : World) (B : Bs) (r : Nat) : World := (((W.alloc (.cells #[.pointer (some ⟨B.G, 0, none⟩)] 130)).alloc (.cells #[.iface 80 (.pointer (some ⟨r, 0, none⟩))] 132)).alloc (.cells #[.func (.func 45) #[] #[.pointer (some ⟨B.D, 0, none⟩), .pointer (some ⟨B.R, 0, none⟩)]] 1))
def runBx (W w2 : World) (B : Bs) : Bx := ⟨B.N, B.K, B.A, B.G, B.D, B.R, W.heap.size, W.heap.size + 1, W.heap.size + 1 + 1, w2.heap.size⟩
/-- Run of a machine that isn't done. -/
theorem run_some {r : Nat} (hG : Boxed W B.G 77 nx) (hz : ∀ W', Frm.Turn [] W W' → Calls Try.prog 56 #[.pointer (some ⟨r, 0, none⟩)] W' fun e w' => e = .returned (.bool false) ∧ W' = w') :
    Calls Try.prog 43 #[.pointer (some ⟨B.G, 0, none⟩), .iface 80 (.pointer (some ⟨r, 0, none⟩)), .func (.func 45) #[] #[.pointer (some ⟨B.D, 0, none⟩), .pointer (some ⟨B.R, 0, none⟩)]] W
      fun e w' => e = .returned (.tuple #[]) ∧ ∃ w2, Frm.Turn [] (runW W B r) w2 ∧ w' = (w2.alloc (.cells #[.bool false] 4)).setCell ⟨B.G, 0, none⟩ (runV (runBx W w2 B)) := by
  have HD := Lib.hid (fun W1 (hT : Frm.Turn [] W W1) => isDone_any (W := W1) (r := r) (z := false) (fun W' hT' => hz W' (hT.trans hT' (by simp))))
  have HGG := Lib.hid (fun W1 (hT : Frm.Turn [] W W1) => boxed_turn hG hT (by simp))
  have HTO := Lib.hid (fun (W1 : World) (v : Value) (hT : Frm.Turn [] W W1) (hv : IsFn v) => to_any B.G v nx W1 hv (HGG.out W1 hT).cell (HGG.out W1 hT).frozen)
  have hmk := hmf
  clear hG hz
  go_enter Try.func43, Try.ntmps43
  go_wp2_with (first
    | (go_at_call 84; (with_reducible refine (HD.out _ ((((Frm.Turn.refl [] W).alloc _).alloc _).alloc _)).mono ?_); rintro e w2 ⟨rfl, hT⟩; have HR2 : Hid (Frm.Turn [] (runW W B r) w2) := Lib.hid hT; have HT2 := Lib.hid ((((Frm.Turn.refl [] W).alloc (.cells #[.pointer (some ⟨B.G, 0, none⟩)] 130)).alloc (.cells #[.iface 80 (.pointer (some ⟨r, 0, none⟩))] 132)).alloc (.cells #[.func (.func 45) #[] #[.pointer (some ⟨B.D, 0, none⟩), .pointer (some ⟨B.R, 0, none⟩)]] 1) |>.trans hT (by simp)); have ct : ∀ ob, (w2.alloc ob).cell? ⟨W.heap.size, 0, none⟩ = some (.pointer (some ⟨B.G, 0, none⟩)) := (fun ob => (hT.alloc ob).cell (by simp [go_sem]) (by simp)); clear hT)
    | (go_at_call 41; (with_reducible refine (HTO.out _ _ (HT2.out.alloc _) (isFn_func _ _ _)).mono ?_); rintro e w3 ⟨rfl, rfl⟩))
  go_end0
  exact ⟨rfl, _, HR2.out, rfl⟩
theorem G1.run {r c m : Nat} {K' : List Nat} {w2 : World} (h : G1 w b n k B A did ran nx W) (hm : Mach w b B.all A c (RdP r b (List.replicate m (0, 0)) []) W) (hT : Frm.Turn [] (runW W B r) w2) :
    G2 w b r n k (runBx W w2 B) A c m [] did ran false (runV (runBx W w2 B)) ((w2.alloc (.cells #[.bool false] 4)).setCell ⟨B.G, 0, none⟩ (runV (runBx W w2 B))) := by
  have T1 : Frm.Turn [] W (runW W B r) := ((((Frm.Turn.refl [] W).alloc _).alloc _).alloc _)
  have T2 : Frm.Turn [] W (w2.alloc (.cells #[.bool false] 4)) := (T1.trans hT (by simp)).alloc _
  have hs : (runW W B r).heap.size = W.heap.size + 3 := by simp [runW]
  have hs2 := hT.size
  have b6 := h.box.turn T2 (by simp)
  have tb : ∀ {q : Nat} {t : TypeId} {v : Value}, Boxed (runW W B r) q t v → Boxed (w2.alloc (.cells #[.bool false] 4)) q t v := fun hb => (boxed_turn hb hT (by simp)).alloc _
  have x1 : Boxed (runW W B r) W.heap.size 130 (.pointer (some ⟨B.G, 0, none⟩)) := ((Boxed.new W _ _).alloc _).alloc _
  have x2 : Boxed (runW W B r) (W.heap.size + 1) 132 (rdI r) := by
    have := (Boxed.new (W.alloc (.cells #[.pointer (some ⟨B.G, 0, none⟩)] 130)) 132 (rdI r)).alloc (.cells #[.func (.func 45) #[] #[.pointer (some ⟨B.D, 0, none⟩), .pointer (some ⟨B.R, 0, none⟩)]] 1)
    rwa [World.size_alloc] at this
  have x3 : Boxed (runW W B r) (W.heap.size + 1 + 1) 1 (thenV (runBx W w2 B)) := by
    have := Boxed.new ((W.alloc (.cells #[.pointer (some ⟨B.G, 0, none⟩)] 130)).alloc (.cells #[rdI r] 132)) 1 (thenV (runBx W w2 B))
    rw [World.size_alloc, World.size_alloc] at this
    exact this
  have x4 : Boxed (w2.alloc (.cells #[.bool false] 4)) w2.heap.size 4 (.bool false) := Boxed.new _ _ _
  obtain ⟨o1, o2, o3, o4, o5⟩ := h.box.ord
  have hR := h.box.bR.lt
  have bx : Boxes w b r n k (runBx W w2 B) did ran false nx (w2.alloc (.cells #[.bool false] 4)) :=
    ⟨b6.bN, b6.bK, b6.bA, b6.bG, b6.bD, b6.bR, tb x1, tb x2, tb x3, x4, ⟨o1, o2, o3, o4, o5, hR, Nat.lt_succ_self _, Nat.lt_succ_self _, show W.heap.size + 1 + 1 < w2.heap.size by omega⟩, h.box.low⟩
  have hg2 : G2 w b r n k (runBx W w2 B) A c m [] did ran false nx (w2.alloc (.cells #[.bool false] 4)) :=
    ⟨bx, hm.own (rd_stays _ _ _ _) T2 (by simp) (fun q hq => ⟨?_, (bx.lt q hq).2⟩)⟩
  · exact hg2.poke (q := (runBx W w2 B).G) (v := runV (runBx W w2 B)) (by simp [Bx.all]) (bx.setg _)
  · simp only [Bx.all, runBx, List.mem_cons, List.not_mem_nil, or_false] at hq
    simp only [Bs.all, List.mem_cons, List.not_mem_nil, or_false]
    omega
set_option maxHeartbeats 1000000 in
/-- One more. -/
theorem each_more {j : Nat} (h : G1 w b n k B A (j : Int) ran nx W) (hj : j < n) (hn : n < 256) :
    Calls Try.prog 42 #[.pointer (some ⟨B.D, 0, none⟩), .pointer (some ⟨B.N, 0, none⟩), .pointer (some ⟨B.G, 0, none⟩), .pointer (some ⟨B.A, 0, none⟩), .pointer (some ⟨B.K, 0, none⟩), .pointer (some ⟨B.R, 0, none⟩)] W
      fun e w' => e = .returned (.tuple #[]) ∧ G1 w b n k B A ((j + 1 : Nat) : Int) ran nx w' := by
  have HG := Lib.hid (h.poke (q := B.D) (v := .int .i64 ((j : Int) + 1)) (by simp [Bs.all]) (h.box.setd ((j : Int) + 1)))
  have c1 := h.box.bD.cell
  have f1 := h.box.bD.frozen
  have c2 := HG.out.box.bN.cell
  have e1 : ((j : Int) + 1 == (n : Int) + 1) = false := by simp; omega
  clear h
  go_enter Try.func42, Try.ntmps42
  go_wp2
  go_end0
  exact ⟨rfl, by have := HG.out; simpa using this⟩
set_option maxRecDepth 100000 in
set_option maxHeartbeats 2000000 in
/-- The last one: the machine is made and begun. -/
theorem each_last (h : G1 w b n k B A (n : Int) ran nx W) (hk : k < 256) (hn : n < 256) {Post : World → Prop}
    (hpost : ∀ (r : Nat) (W4 : World), G1 w b n k B A ((n : Int) + 1) ran nx W4 → Mach w b B.all A 0 (RdP r b (List.replicate k (0, 0)) []) W4 →
      Calls Try.prog 43 #[.pointer (some ⟨B.G, 0, none⟩), .iface 80 (.pointer (some ⟨r, 0, none⟩)), .func (.func 45) #[] #[.pointer (some ⟨B.D, 0, none⟩), .pointer (some ⟨B.R, 0, none⟩)]] W4 fun e w' => e = .returned (.tuple #[]) ∧ Post w') :
    Calls Try.prog 42 #[.pointer (some ⟨B.D, 0, none⟩), .pointer (some ⟨B.N, 0, none⟩), .pointer (some ⟨B.G, 0, none⟩), .pointer (some ⟨B.A, 0, none⟩), .pointer (some ⟨B.K, 0, none⟩), .pointer (some ⟨B.R, 0, none⟩)] W
      fun e w' => e = .returned (.tuple #[]) ∧ Post w' := by
  have HG := Lib.hid (h.poke (q := B.D) (v := .int .i64 ((n : Int) + 1)) (by simp [Bs.all]) (h.box.setd ((n : Int) + 1)))
  have HP := Lib.hid hpost
  have c1 := h.box.bD.cell
  have f1 := h.box.bD.frozen
  have c2 := HG.out.box.bN.cell
  have hmk := hmf
  obtain ⟨i0, hi0, hz0, hz1, hz2⟩ := info_parts info_addr
  clear h hpost
  go_enter Try.func42, Try.ntmps42
  go_upto_region 2 with fail
  obtain ⟨W1, HW1⟩ : ∃ W1, Hid (W1 = W.setCell ⟨B.D, 0, none⟩ (.int .i64 ((n : Int) + 1))) := ⟨_, Lib.hid rfl⟩
  rw [← HW1.out] at HG ⊢
  clear c1 f1 c2
  obtain ⟨w3, hrun, hown, hgr⟩ := run_make_full (P := Try.prog) W1.drew 0 82 34 i0 (.agg #[.int .u64 0, .int .i64 0]) 2 under_addrs hi0 hz0 hz1 .i64 .i64 k (by rw [hz2]; omega) (by unfold maxLen; omega) (Nat.zero_le _)
  have hT3 : Frm.Turn [] W1 w3 := ((Frm.Turn.refl [] W1).drew).trans (Frm.Turn.of_grown hgr) (by simp)
  have HT3 := Lib.hid hT3
  have HA3 := Lib.hid (zero_addrs (by omega) hown)
  have cA := HG.out.box.bA.cell
  have cK := HG.out.box.bK.cell
  have cA3 := (HG.out.box.turn hT3 (by simp)).bA.cell
  have HRN := Lib.hid (rd_new (.slice (some ⟨W1.drew.heap.size, 0, none⟩) k k) _ (HG.out.mach.step bare_stays hT3) HA3.out (by rw [List.length_replicate]; omega))
  have hwr : IntKind.i64.wrap (k : Int) = (k : Int) := by simp only [IntKind.wrap_i64]; omega
  clear hown hgr hT3 hi0 hz0 hz1 hz2
  simp only [show W1.drew.heap.size = W1.heap.size from rfl] at hrun HRN
  trace_state
  go_region_with (first
    | (go_at_call 44; (with_reducible refine (HRN.out).mono ?_); rintro e w4 ⟨r, rfl, hm, hT⟩; have HM4 := Lib.hid hm; have HT4 := Lib.hid hT; clear hm hT)
    | (go_at_call 43; (with_reducible refine (HP.out _ _ (HG.out.step (HT3.out.trans HT4.out (by simp))) HM4.out).mono ?_); rintro e w5 ⟨rfl, hp⟩; have HP5 := Lib.hid hp; clear hp))
  all_goals go_wp2_with fail
  all_goals go_end0
  all_goals exact ⟨rfl, HP5.out⟩
end Pac
end Go.Proofs.Ytoghagapbhlfeaa
