/- A gear that runs a machine that reads. -/
import Derived.Test.YtoghagapbhlfeaaPaceFirst
import Derived.RangeFuncBox
set_option linter.unusedVariables false
set_option linter.unusedSimpArgs false
namespace Go.Proofs.Ytoghagapbhlfeaa
namespace Pac
open Go.RowKit Go.Maps Arn

theorem boxed_turn {W W' : World} {B : Nat} {t : TypeId} {v : Value} {F : List Nat} (h : Boxed W B t v) (ht : Frm.Turn F W W') (hn : B ∉ F) : Boxed W' B t v := ht.keep (show _ = _ from h) hn
/-- A machine that reads, as an interface holds it. -/
def rdI (r : Nat) : Value := .iface 80 (.pointer (some ⟨r, 0, none⟩))
theorem iface_not_nil (r : Nat) (w : World) : (binOp BinOp.eql 132 (.iface 80 (.pointer (some ⟨r, 0, none⟩))) .nilIface).run Try.prog w = .ok (.bool false) w := by kernel_rfl
theorem meth_done (r n : Nat) (w : World) : (method (n + 1) 80 (.pointer (some ⟨r, 0, none⟩)) "Done").run Try.prog w = .ok (56, .pointer (some ⟨r, 0, none⟩)) w := by kernel_rfl
theorem meth_step (r n : Nat) (w : World) : (method (n + 1) 80 (.pointer (some ⟨r, 0, none⟩)) "Step").run Try.prog w = .ok (53, .pointer (some ⟨r, 0, none⟩)) w := by kernel_rfl
theorem enters_rstep : Enters Try.prog 53 := enters_of Try.func53 (by kernel_rfl) rfl
theorem enters_isdone1 : Enters Try.prog 103 := enters_of Try.func103 (by kernel_rfl) rfl
theorem enters_run1 : Enters Try.prog 85 := enters_of Try.func85 (by kernel_rfl) rfl
theorem enters_then : Enters Try.prog 45 := enters_of Try.func45 (by kernel_rfl) rfl
theorem enters_each : Enters Try.prog 42 := enters_of Try.func42 (by kernel_rfl) rfl

set_option maxRecDepth 10000 in
theorem isDone1_any {W : World} {mb db r : Nat} {z : Bool} (hm : Boxed W mb 132 (rdI r)) (hd : Boxed W db 4 (.bool true)) (hz : Calls Try.prog 56 #[.pointer (some ⟨r, 0, none⟩)] W fun e w' => e = .returned (.bool z) ∧ W = w') :
    Calls Try.prog 103 #[.pointer (some ⟨mb, 0, none⟩), .pointer (some ⟨db, 0, none⟩)] W fun e w' => e = .returned (.tuple #[]) ∧ w' = W.setCell ⟨db, 0, none⟩ (.bool z) := by
  have c1 := hm.cell
  have c2 := hd.cell
  have f2 := hd.frozen
  unfold rdI at c1
  have h1 := iface_not_nil r
  have h2 := meth_done r
  have HZ := Lib.hid hz
  clear hz hm hd
  go_enter Try.func103, Try.ntmps103
  go_wp2_with (go_at_call 56; (with_reducible refine (HZ.out).mono ?_); rintro e w1 ⟨rfl, rfl⟩)
  go_end0
  exact ⟨rfl, rfl⟩
theorem isDone_any {W : World} {r : Nat} {z : Bool} (hz : ∀ W', Frm.Turn [] W W' → Calls Try.prog 56 #[.pointer (some ⟨r, 0, none⟩)] W' fun e w' => e = .returned (.bool z) ∧ W' = w') :
    Calls Try.prog 84 #[.iface 80 (.pointer (some ⟨r, 0, none⟩))] W fun e w' => e = .returned (.bool z) ∧ Frm.Turn [] W w' := by
  have hb1 : Boxed ((W.alloc (.cells #[rdI r] 132)).alloc (.cells #[.bool true] 4)) W.heap.size 132 (rdI r) := (Boxed.new W _ _).alloc _
  have hb2 : Boxed ((W.alloc (.cells #[rdI r] 132)).alloc (.cells #[.bool true] 4)) (W.heap.size + 1) 4 (.bool true) := by
    have := Boxed.new (W.alloc (.cells #[rdI r] 132)) 4 (.bool true)
    rwa [World.size_alloc] at this
  have h1 := isDone1_any hb1 hb2 (hz _ (((Frm.Turn.refl [] W).alloc _).alloc _))
  have h2 := call_fn (g := 103) #[] #[.pointer (some ⟨W.heap.size, 0, none⟩), .pointer (some ⟨W.heap.size + 1, 0, none⟩)] _ (R := fun w' => w' = ((W.alloc (.cells #[rdI r] 132)).alloc (.cells #[.bool true] 4)).setCell ⟨W.heap.size + 1, 0, none⟩ (.bool z)) enters_isdone1 h1
  unfold rdI at h2
  have H := Lib.hid h2
  have hmk := hmf
  clear h1 h2 hb1 hb2 hz
  go_enter Try.func84, Try.ntmps84
  go_wp2_with (go_at_call 83; (with_reducible refine (H.out).mono ?_); rintro e w1 ⟨rfl, rfl⟩)
  go_ret
  exact ⟨rfl, by repeat (first | exact Frm.Turn.refl _ _ | apply Frm.Turn.alloc)⟩
/-- What is called behind the machine: ran becomes did. -/
theorem then_any {W : World} {D R : Nat} {did ran : Int} (hd : Boxed W D 3 (.int .i64 did)) (hr : Boxed W R 3 (.int .i64 ran)) :
    Calls Try.prog 45 #[.pointer (some ⟨D, 0, none⟩), .pointer (some ⟨R, 0, none⟩)] W fun e w' => e = .returned (.tuple #[]) ∧ w' = W.setCell ⟨R, 0, none⟩ (.int .i64 did) := by
  have c1 := hd.cell
  have c2 := hr.cell
  have f2 := hr.frozen
  clear hd hr
  go_enter Try.func45, Try.ntmps45
  go_wp2
  go_end0
  exact ⟨rfl, rfl⟩
/-- The blocks of PaceGears, as they were made. -/
structure Bx where
  N : Nat
  K : Nat
  A : Nat
  G : Nat
  D : Nat
  R : Nat
  gb : Nat
  mb : Nat
  tb : Nat
  wb : Nat
def Bx.all (B : Bx) : List Nat := [B.N, B.K, B.A, B.G, B.D, B.R, B.gb, B.mb, B.tb, B.wb]
def thenV (B : Bx) : Value := .func (.func 45) #[] #[.pointer (some ⟨B.D, 0, none⟩), .pointer (some ⟨B.R, 0, none⟩)]
def runV (B : Bx) : Value := .func (.func 85) #[] #[.pointer (some ⟨B.wb, 0, none⟩), .pointer (some ⟨B.mb, 0, none⟩), .pointer (some ⟨B.gb, 0, none⟩), .pointer (some ⟨B.tb, 0, none⟩)]
/-- The boxes, and what lies in them. -/
structure Boxes (w : World) (b r n k : Nat) (B : Bx) (did ran : Int) (wi : Bool) (nx : Value) (W : World) : Prop where
  bN : Boxed W B.N 5 (.int .u8 n)
  bK : Boxed W B.K 5 (.int .u8 k)
  bA : Boxed W B.A 25 (.pointer (some ⟨b, 0, none⟩))
  bG : Boxed W B.G 77 nx
  bD : Boxed W B.D 3 (.int .i64 did)
  bR : Boxed W B.R 3 (.int .i64 ran)
  bg : Boxed W B.gb 130 (.pointer (some ⟨B.G, 0, none⟩))
  bm : Boxed W B.mb 132 (rdI r)
  bt : Boxed W B.tb 1 (thenV B)
  bw : Boxed W B.wb 4 (.bool wi)
  ord : B.N < B.K ∧ B.K < B.A ∧ B.A < B.G ∧ B.G < B.D ∧ B.D < B.R ∧ B.R < B.gb ∧ B.gb < B.mb ∧ B.mb < B.tb ∧ B.tb < B.wb
  low : w.heap.size ≤ B.N
variable {w W W' : World} {b r n k : Nat} {B : Bx} {did ran : Int} {wi : Bool} {nx : Value}
theorem Boxes.turn {F : List Nat} (h : Boxes w b r n k B did ran wi nx W) (ht : Frm.Turn F W W') (hn : ∀ k, k ∈ B.all → k ∉ F) : Boxes w b r n k B did ran wi nx W' := by
  have m : ∀ q, q ∈ B.all → q ∉ F := hn
  simp only [Bx.all] at m
  exact ⟨boxed_turn h.bN ht (m _ (by simp)), boxed_turn h.bK ht (m _ (by simp)), boxed_turn h.bA ht (m _ (by simp)), boxed_turn h.bG ht (m _ (by simp)), boxed_turn h.bD ht (m _ (by simp)), boxed_turn h.bR ht (m _ (by simp)),
    boxed_turn h.bg ht (m _ (by simp)), boxed_turn h.bm ht (m _ (by simp)), boxed_turn h.bt ht (m _ (by simp)), boxed_turn h.bw ht (m _ (by simp)), h.ord, h.low⟩
theorem Boxes.setw (h : Boxes w b r n k B did ran wi nx W) (x : Bool) : Boxes w b r n k B did ran x nx (W.setCell ⟨B.wb, 0, none⟩ (.bool x)) := by
  obtain ⟨o1, o2, o3, o4, o5, o6, o7, o8, o9⟩ := h.ord
  exact ⟨h.bN.other (by omega) _, h.bK.other (by omega) _, h.bA.other (by omega) _, h.bG.other (by omega) _, h.bD.other (by omega) _, h.bR.other (by omega) _, h.bg.other (by omega) _, h.bm.other (by omega) _, h.bt.other (by omega) _, h.bw.set _, h.ord, h.low⟩
theorem Boxes.setg (h : Boxes w b r n k B did ran wi nx W) (x : Value) : Boxes w b r n k B did ran wi x (W.setCell ⟨B.G, 0, none⟩ x) := by
  obtain ⟨o1, o2, o3, o4, o5, o6, o7, o8, o9⟩ := h.ord
  exact ⟨h.bN.other (by omega) _, h.bK.other (by omega) _, h.bA.other (by omega) _, h.bG.set _, h.bD.other (by omega) _, h.bR.other (by omega) _, h.bg.other (by omega) _, h.bm.other (by omega) _, h.bt.other (by omega) _, h.bw.other (by omega) _, h.ord, h.low⟩
theorem Boxes.setr (h : Boxes w b r n k B did ran wi nx W) (x : Int) : Boxes w b r n k B did x wi nx (W.setCell ⟨B.R, 0, none⟩ (.int .i64 x)) := by
  obtain ⟨o1, o2, o3, o4, o5, o6, o7, o8, o9⟩ := h.ord
  exact ⟨h.bN.other (by omega) _, h.bK.other (by omega) _, h.bA.other (by omega) _, h.bG.other (by omega) _, h.bD.other (by omega) _, h.bR.set _, h.bg.other (by omega) _, h.bm.other (by omega) _, h.bt.other (by omega) _, h.bw.other (by omega) _, h.ord, h.low⟩
theorem Boxes.lt (h : Boxes w b r n k B did ran wi nx W) : ∀ q, q ∈ B.all → w.heap.size ≤ q ∧ q < W.heap.size := by
  intro q hq
  obtain ⟨o1, o2, o3, o4, o5, o6, o7, o8, o9⟩ := h.ord
  have := h.low
  have := h.bw.lt
  simp only [Bx.all, List.mem_cons, List.not_mem_nil, or_false] at hq
  omega
/-- PaceGears while its gear runs the machine. -/
structure G2 (w : World) (b r n k : Nat) (B : Bx) (A : Ar) (c m : Nat) (Wd : List Int) (did ran : Int) (wi : Bool) (nx : Value) (W : World) : Prop where
  box : Boxes w b r n k B did ran wi nx W
  mach : Mach w b B.all A c (RdP r b (List.replicate m (0, 0)) Wd) W
variable {A : Ar} {c m : Nat} {Wd : List Int}
theorem G2.poke {did' ran' : Int} {wi' : Bool} {nx' : Value} {q : Nat} {v : Value} (h : G2 w b r n k B A c m Wd did ran wi nx W) (hq : q ∈ B.all) (hb : Boxes w b r n k B did' ran' wi' nx' (W.setCell ⟨q, 0, none⟩ v)) : G2 w b r n k B A c m Wd did' ran' wi' nx' (W.setCell ⟨q, 0, none⟩ v) :=
  ⟨hb, h.mach.own (rd_stays _ _ _ _) (G := [q]) ((Frm.Turn.refl _ W).setCell (p := ⟨q, 0, none⟩) (.inl (by simp)) v) (fun k hk => by simp at hk; subst hk; exact .inl ⟨hq, (h.box.lt k hq).1⟩) (fun k hk => ⟨.inl hk, by have := (h.box.lt k hk).2; simpa using this⟩)⟩
theorem G2.step (h : G2 w b r n k B A c m Wd did ran wi nx W) (ht : Frm.Turn [] W W') : G2 w b r n k B A c m Wd did ran wi nx W' := ⟨h.box.turn ht (by simp), h.mach.step (rd_stays _ _ _ _) ht⟩
theorem g2_done (h : G2 w b r n k B A c m Wd did ran wi nx W) : Calls Try.prog 84 #[.iface 80 (.pointer (some ⟨r, 0, none⟩))] W fun e w' => e = .returned (.bool (decide (m = 0))) ∧ G2 w b r n k B A c m Wd did ran wi nx w' :=
  (isDone_any (fun W' hT => rd_done_is (h.mach.step (rd_stays _ _ _ _) hT))).mono fun e w' ⟨he, hT⟩ => ⟨by rw [he]; simp, h.step hT⟩
/-- A step of the machine, called as a value. -/
theorem g2_call (h : G2 w b r n k B A c (m + 1) Wd did ran wi nx W) (hc : c ≤ 100000) (hm : m ≤ 1000) (hW : Wd.length ≤ 1000) :
    ∃ A' Wd', A'.t.reads = A.t.reads + 1 ∧ Wd'.length = Wd.length + 1 ∧ Calls Try.prog 83 #[.func (.method "Step") #[.iface 80 (.pointer (some ⟨r, 0, none⟩))] #[]] W fun e w' => e = .returned (.tuple #[]) ∧ G2 w b r n k B A' (c + 1) m Wd' did ran wi nx w' := by
  have hm1 := h.mach
  rw [List.replicate_succ] at hm1
  obtain ⟨hlow, hborn, hok⟩ := hm1.low
  have e1 : (A.read 0 0).1.t.reads = A.t.reads + 1 := by
    unfold Ar.read
    have : A.err 0 0 = 0 := by
      unfold Ar.err Ar.row
      rw [if_pos rfl]
      have := hok.nine
      simp [this]
    rw [if_pos this]
  refine ⟨(A.read 0 0).1, Wd ++ [(A.read 0 0).2.1], e1, by simp, ?_⟩
  refine (call_meth _ _ W (R := fun w' => G2 w b r n k B (A.read 0 0).1 (c + 1) m (Wd ++ [(A.read 0 0).2.1]) did ran wi nx w') enters_rstep (meth_step r) ?_)
  refine (rd_step hm1 (by omega) (by omega) (by simp; omega) (w64_small _ (by omega)) (by decide)).mono ?_
  rintro e w' ⟨he, hm', F, hT, h1, h2⟩
  exact ⟨he, h.box.turn hT h1, hm'⟩
set_option maxHeartbeats 1000000 in
/-- A step of the gear that runs the machine: more is left. -/
theorem run1_more (h : G2 w b r n k B A c (m + 2) Wd did ran false nx W) (hc : c ≤ 100000) (hm : m ≤ 900) (hW : Wd.length ≤ 1000) :
    ∃ A' Wd', A'.t.reads = A.t.reads + 1 ∧ Wd'.length = Wd.length + 1 ∧ Calls Try.prog 85 #[.pointer (some ⟨B.wb, 0, none⟩), .pointer (some ⟨B.mb, 0, none⟩), .pointer (some ⟨B.gb, 0, none⟩), .pointer (some ⟨B.tb, 0, none⟩)] W fun e w' => e = .returned (.tuple #[]) ∧ G2 w b r n k B A' (c + 1) (m + 1) Wd' did ran false nx w' := by
  have h1 := h.poke (q := B.wb) (v := .bool true) (by simp [Bx.all]) (h.box.setw true)
  obtain ⟨A', Wd', e1, e2, hcall⟩ := g2_call h1 hc (by omega) hW
  refine ⟨A', Wd', e1, e2, ?_⟩
  have HC := Lib.hid hcall
  have HD := Lib.hid (fun W1 (hg : G2 w b r n k B A' (c + 1) (m + 1) Wd' did ran true nx W1) => g2_done (hg.poke (q := B.wb) (v := .bool false) (by simp [Bx.all]) (hg.box.setw false)))
  have cw := h.box.bw.cell
  have fw := h.box.bw.frozen
  have cm := h.box.bm.cell
  have cm1 := h1.box.bm.cell
  unfold rdI at cm cm1
  have hmk := hmf
  clear h h1 hcall e1 e2
  go_enter Try.func85, Try.ntmps85
  go_wp2_with (first
    | (go_at_call 83; (with_reducible refine (HC.out).mono ?_); rintro e w1 ⟨rfl, hg⟩; have HG := Lib.hid hg; have dw := hg.box.bw.cell; have gw := hg.box.bw.frozen; have dm := (hg.box.setw false).bm.cell; unfold rdI at dm; clear hg)
    | (go_at_call 84; (with_reducible refine (HD.out _ HG.out).mono ?_); rintro e w2 ⟨rfl, hg⟩; have HG2 := Lib.hid hg; clear hg))
  go_end0
  exact ⟨rfl, HG2.out⟩
set_option maxHeartbeats 1000000 in
/-- .. the last one. -/
theorem run1_last (h : G2 w b r n k B A c 1 Wd did ran false nx W) (hc : c ≤ 100000) (hW : Wd.length ≤ 1000) :
    ∃ A' Wd', A'.t.reads = A.t.reads + 1 ∧ Calls Try.prog 85 #[.pointer (some ⟨B.wb, 0, none⟩), .pointer (some ⟨B.mb, 0, none⟩), .pointer (some ⟨B.gb, 0, none⟩), .pointer (some ⟨B.tb, 0, none⟩)] W fun e w' => e = .returned (.tuple #[]) ∧ G2 w b r n k B A' (c + 1) 0 Wd' did did false .nilFunc w' := by
  have h1 := h.poke (q := B.wb) (v := .bool true) (by simp [Bx.all]) (h.box.setw true)
  obtain ⟨A', Wd', e1, e2, hcall⟩ := g2_call h1 hc (by omega) hW
  refine ⟨A', Wd', e1, ?_⟩
  have HC := Lib.hid hcall
  have HD := Lib.hid (fun W1 (hg : G2 w b r n k B A' (c + 1) 0 Wd' did ran true nx W1) => g2_done (hg.poke (q := B.wb) (v := .bool false) (by simp [Bx.all]) (hg.box.setw false)))
  have HE := Lib.hid (fun W1 (hg : G2 w b r n k B A' (c + 1) 0 Wd' did ran false nx W1) => end_any B.G nx W1 hg.box.bG.cell hg.box.bG.frozen)
  have HT : Hid (∀ W1, G2 w b r n k B A' (c + 1) 0 Wd' did ran false nx W1 → Calls Try.prog 83 #[.func (.func 45) #[] #[.pointer (some ⟨B.D, 0, none⟩), .pointer (some ⟨B.R, 0, none⟩)]] (W1.setCell ⟨B.G, 0, none⟩ .nilFunc) fun e w' => e = .returned (.tuple #[]) ∧ G2 w b r n k B A' (c + 1) 0 Wd' did did false .nilFunc w') :=
    Lib.hid fun W1 hg => by
      have g1 := hg.poke (q := B.G) (v := .nilFunc) (by simp [Bx.all]) (hg.box.setg .nilFunc)
      have g2 := g1.poke (q := B.R) (v := .int .i64 did) (by simp [Bx.all]) (g1.box.setr did)
      exact (call_fn (g := 45) #[] #[.pointer (some ⟨B.D, 0, none⟩), .pointer (some ⟨B.R, 0, none⟩)] _ (R := fun w' => w' = (W1.setCell ⟨B.G, 0, none⟩ .nilFunc).setCell ⟨B.R, 0, none⟩ (.int .i64 did)) enters_then (then_any g1.box.bD g1.box.bR)).mono (by rintro e w' ⟨he, rfl⟩; exact ⟨he, g2⟩)
  have cw := h.box.bw.cell
  have fw := h.box.bw.frozen
  have cm := h.box.bm.cell
  have cm1 := h1.box.bm.cell
  unfold rdI at cm cm1
  have hmk := hmf
  clear h h1 hcall e1 e2
  go_enter Try.func85, Try.ntmps85
  go_wp2_with (first
    | (go_at_call 83; (with_reducible refine (HC.out).mono ?_); rintro e w1 ⟨rfl, hg⟩; have HG := Lib.hid hg; have dw := hg.box.bw.cell; have gw := hg.box.bw.frozen; have dm := (hg.box.setw false).bm.cell; unfold rdI at dm; clear hg)
    | (go_at_call 84; (with_reducible refine (HD.out _ HG.out).mono ?_); rintro e w2 ⟨rfl, hg⟩; have HG2 := Lib.hid hg; have eg := hg.box.bg.cell; have et := (hg.box.setg .nilFunc).bt.cell; unfold thenV at et; clear hg)
    | (go_at_call 86; (with_reducible refine (HE.out _ HG2.out).mono ?_); rintro e w3 ⟨rfl, rfl⟩)
    | (go_at_call 83; (with_reducible refine (HT.out _ HG2.out).mono ?_); rintro e w4 ⟨rfl, hg⟩; have HG4 := Lib.hid hg; clear hg))
  go_end0
  exact ⟨rfl, HG4.out⟩
end Pac
end Go.Proofs.Ytoghagapbhlfeaa
