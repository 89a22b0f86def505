/- Law ModelApart, walked. (Drawn regions laid out by tools/region_gen.py.) -/
import Derived.Test.YtmodanjblbaedaaDoorModelTwo
import Derived.Deep.Cut
import Derived.Deep.DeepCutAuto
set_option linter.unusedVariables false
set_option linter.unusedSimpArgs false
namespace Go.Proofs.YtmodanjblbaedaaDoor
namespace Mdl
open Go.RowKit Go.Maps Go.Shelf Go.Lib Go.Sort

def Boxes (w : World) (o p : Opn) (W : World) : Prop := W.heap[w.heap.size]? = some (.cells #[.int .i64 o.c, .int .i64 o.k, .int .i64 o.a, .int .i64 o.b] 35 (0, 0)) ∧ W.heap[w.heap.size + 1]? = some (.cells #[.int .i64 p.c, .int .i64 p.k, .int .i64 p.a, .int .i64 p.b] 35 (0, 0))
def Eight (w : World) (o p : Opn) (W : World) : Prop := (W.cell? ⟨w.heap.size, 0, none⟩ = some (.int .i64 o.c) ∧ W.cell? ⟨w.heap.size, 1, none⟩ = some (.int .i64 o.k) ∧ W.cell? ⟨w.heap.size, 2, none⟩ = some (.int .i64 o.a) ∧ W.cell? ⟨w.heap.size, 3, none⟩ = some (.int .i64 o.b)) ∧ W.cell? ⟨w.heap.size + 1, 0, none⟩ = some (.int .i64 p.c) ∧ W.cell? ⟨w.heap.size + 1, 1, none⟩ = some (.int .i64 p.k) ∧ W.cell? ⟨w.heap.size + 1, 2, none⟩ = some (.int .i64 p.a) ∧ W.cell? ⟨w.heap.size + 1, 3, none⟩ = some (.int .i64 p.b)
theorem Boxes.turn {w W W' : World} {o p : Opn} {F : List Nat} (h : Boxes w o p W) (hT : Frm.Turn F W W') (h0 : w.heap.size ∉ F) (h1 : w.heap.size + 1 ∉ F) : Boxes w o p W' := ⟨hT.keep h.1 h0, hT.keep h.2 h1⟩
theorem Boxes.eight {w W : World} {o p : Opn} (h : Boxes w o p W) : Eight w o p W := by
  obtain ⟨⟨a0, a1, a2, a3⟩, _⟩ := Ops.blk4 h.1
  obtain ⟨⟨b0, b1, b2, b3⟩, _⟩ := Ops.blk4 h.2
  exact ⟨⟨a0, a1, a2, a3⟩, b0, b1, b2, b3⟩

def Cut2 (w4 : World) (b b2 : Nat) (F F2 : List Nat) (mc nc : Mo) (x1 y1 x2 y2 : Int) (s t : Value) (W : World) : Prop := ∃ n k Fc Fd, s = .pointer (some ⟨n, 0, none⟩) ∧ t = .pointer (some ⟨k, 0, none⟩) ∧ Two w4 W b b2 F F2 mc nc Fc Fd ∧ BoxAt w4 W Fc Fd n x1 y1 ∧ BoxAt w4 W Fc Fd k x2 y2
def Cut4 (w4 : World) (b b2 : Nat) (F F2 : List Nat) (mc nc : Mo) (x1 y1 x2 y2 : Int) (n k : Nat) (s t : Value) (W : World) : Prop := ∃ i j Fc Fd, s = .pointer (some ⟨i, 0, none⟩) ∧ t = .pointer (some ⟨j, 0, none⟩) ∧ Two w4 W b b2 F F2 mc nc Fc Fd ∧ BoxAt w4 W Fc Fd n x1 y1 ∧ BoxAt w4 W Fc Fd k x2 y2 ∧ BoxAt w4 W Fc Fd i x2 y2 ∧ BoxAt w4 W Fc Fd j x1 y1
attribute [local go_sem ↓] Go.wp_at_zero Go.wp_at_succ
set_option maxRecDepth 100000 in
set_option maxHeartbeats 8000000 in
theorem apart_any {w : World} (hK : Ops.Kn w) {a0 : Option Addr} {len cap : Nat} (h : Steps w a0 len) (hl : len ≤ 9223372036854775807) (o p : Opn) :
    Calls Tryd.prog 5 #[.slice a0 len cap, .agg #[.int .i64 o.c, .int .i64 o.k, .int .i64 o.a, .int .i64 o.b], .agg #[.int .i64 p.c, .int .i64 p.k, .int .i64 p.a, .int .i64 p.b]] w (LawEnd w) := by
  have HK := Lib.hid hK
  have H := Lib.hid h
  have HB0 : Hid (Boxes w o p ((w.alloc (opC o.c o.k o.a o.b)).alloc (opC p.c p.k p.a p.b))) := Lib.hid ⟨((Frm.Turn.refl [] _).alloc _).keep (World.alloc_heap_new w _) (by simp), by have := World.alloc_heap_new (w.alloc (opC o.c o.k o.a o.b)) (opC p.c p.k p.a p.b); rw [World.size_alloc] at this; exact this⟩
  have HT0 := Lib.hid (((Frm.Turn.refl [] w).alloc (opC o.c o.k o.a o.b)).alloc (opC p.c p.k p.a p.b))
  clear hK h
  go_enter Tryd.func5, Tryd.ntmps5
  go_wp2_with fail
  refine (first_any (HK.out.turn HT0.out)).mono ?_
  rintro e w1 ⟨rfl, hT⟩
  have HT1 := Lib.hid (HT0.out.trans hT (by simp))
  have HB1 := Lib.hid (HB0.out.turn hT (by simp) (by simp))
  clear hT
  have HG : Hid (∀ W, Frm.Turn [] w W → Calls Tryd.prog 7 #[.slice a0 len cap] W (GreatEnd W)) := Lib.hid (fun W hT => great_any (H.out.step hT) hl)
  have HS : Hid (∀ W, Frm.Turn [] w1 W → Eight w o p W) := Lib.hid (fun W hT => (HB1.out.turn hT (by simp) (by simp)).eight)
  have HPa := Lib.hid (fun W => part_any o.c o.k o.a o.b W)
  have HPb := Lib.hid (fun W => part_any p.c p.k p.a p.b W)
  have HEi : Hid (∀ m, partN o.c o.k o.a o.b ≠ 0 → partN p.c p.k p.a p.b ≠ 0 → partN o.c o.k o.a o.b ≠ partN p.c p.k p.a p.b → Either m o p) := Lib.hid (fun m h1 h2 h3 => either_of h1 h2 h3)
  generalize partN o.c o.k o.a o.b = pa at HPa HEi
  generalize partN p.c p.k p.a p.b = pb at HPb HEi
  have HTc := Lib.hid ((Frm.Turn.refl [] w1).drew)
  unfold Eight at HS
  go_wp2_with fail
  refine wp_region_held_drew (S := fun W' => (W'.cell? ⟨w.heap.size, 0, none⟩ = some (.int .i64 o.c) ∧ W'.cell? ⟨w.heap.size, 1, none⟩ = some (.int .i64 o.k) ∧ W'.cell? ⟨w.heap.size, 2, none⟩ = some (.int .i64 o.a) ∧ W'.cell? ⟨w.heap.size, 3, none⟩ = some (.int .i64 o.b)) ∧ W'.cell? ⟨w.heap.size + 1, 0, none⟩ = some (.int .i64 p.c) ∧ W'.cell? ⟨w.heap.size + 1, 1, none⟩ = some (.int .i64 p.k) ∧ W'.cell? ⟨w.heap.size + 1, 2, none⟩ = some (.int .i64 p.a) ∧ W'.cell? ⟨w.heap.size + 1, 3, none⟩ = some (.int .i64 p.b)) (by kernel_rfl) ?_ (fun hHeld => ?_)
  · exact HS.out _ HTc.out
  refine wpAnyH_take (i := 0) (v := ?_) rfl (by kernel_rfl) (by kernel_rfl) (by kernel_rfl) (fun _ _ _ h => h) (Or.inl ⟨by rfl, ?_⟩) (by assumption) ?_
  rotate_left
  · (intro w hSw; (try dsimp only at hSw); go_simp; try with_reducible rfl)
  try simp only [Act.put, List.getElem_toArray, List.getElem_cons_succ, List.getElem_cons_zero, List.setIfInBounds_toArray, List.set_cons_zero, List.set_cons_succ]
  refine wpAnyH_ready (rs := [1]) (by kernel_rfl) (by simp) ?_
  refine AllReadyH.cons rfl (fun K hK => ?_) AllReadyH.nil
  try simp only [List.getElem_toArray, List.getElem_cons_succ, List.getElem_cons_zero]
  go_simp
  (go_at_call 7; (with_reducible refine (HG.out _ (HT1.out.trans HTc.out (by simp))).mono ?_); rintro e r1 ⟨g, rfl, hT⟩; have HTc := Lib.hid (HTc.out.trans hT (by simp)); clear hT)
  try go_wp2_with fail
  refine hK.out _ _ (HS.out _ HTc.out) (fun hHeld => ?_)
  clear hK K
  try simp only [Act.put, List.getElem_toArray, List.getElem_cons_succ, List.getElem_cons_zero, List.setIfInBounds_toArray, List.set_cons_zero, List.set_cons_succ]
  cases g with
  | true =>
    refine wpAnyH_take (i := 2) (v := ?_) rfl (by kernel_rfl) (by kernel_rfl) (by kernel_rfl) (fun _ _ _ h => h) (Or.inl ⟨by rfl, ?_⟩) (by assumption) ?_
    rotate_left
    · (intro w hSw; (try dsimp only at hSw); go_simp; try with_reducible rfl)
    try simp only [Act.put, List.getElem_toArray, List.getElem_cons_succ, List.getElem_cons_zero, List.setIfInBounds_toArray, List.set_cons_zero, List.set_cons_succ]
    refine wpAnyH_take (i := 3) (v := undef) rfl (by kernel_rfl) (by kernel_rfl) (by kernel_rfl) (fun _ _ _ h => h) (Or.inr ⟨by rfl, rfl⟩) (by assumption) ?_
    try simp only [Act.put, List.getElem_toArray, List.getElem_cons_succ, List.getElem_cons_zero, List.setIfInBounds_toArray, List.set_cons_zero, List.set_cons_succ]
    refine wpAnyH_take (i := 4) (v := undef) rfl (by kernel_rfl) (by kernel_rfl) (by kernel_rfl) (fun _ _ _ h => h) (Or.inr ⟨by rfl, rfl⟩) (by assumption) ?_
    try simp only [Act.put, List.getElem_toArray, List.getElem_cons_succ, List.getElem_cons_zero, List.setIfInBounds_toArray, List.set_cons_zero, List.set_cons_succ]
    refine wpAnyH_take (i := 5) (v := undef) rfl (by kernel_rfl) (by kernel_rfl) (by kernel_rfl) (fun _ _ _ h => h) (Or.inr ⟨by rfl, rfl⟩) (by assumption) ?_
    try simp only [Act.put, List.getElem_toArray, List.getElem_cons_succ, List.getElem_cons_zero, List.setIfInBounds_toArray, List.set_cons_zero, List.set_cons_succ]
    refine wpAnyH_take (i := 6) (v := ?_) rfl (by kernel_rfl) (by kernel_rfl) (by kernel_rfl) (fun _ _ _ h => h) (Or.inl ⟨by rfl, ?_⟩) (by assumption) ?_
    rotate_left
    · (intro w hSw; (try dsimp only at hSw); go_simp; try with_reducible rfl)
    try simp only [Act.put, List.getElem_toArray, List.getElem_cons_succ, List.getElem_cons_zero, List.setIfInBounds_toArray, List.set_cons_zero, List.set_cons_succ]
    refine wpAnyH_take (i := 7) (v := ?_) rfl (by kernel_rfl) (by kernel_rfl) (by kernel_rfl) (fun _ _ _ h => h) (Or.inl ⟨by rfl, ?_⟩) (by assumption) ?_
    rotate_left
    · (intro w hSw; (try dsimp only at hSw); go_simp; try with_reducible rfl)
    try simp only [Act.put, List.getElem_toArray, List.getElem_cons_succ, List.getElem_cons_zero, List.setIfInBounds_toArray, List.set_cons_zero, List.set_cons_succ]
    refine wpAnyH_take (i := 8) (v := undef) rfl (by kernel_rfl) (by kernel_rfl) (by kernel_rfl) (fun _ _ _ h => h) (Or.inr ⟨by rfl, rfl⟩) (by assumption) ?_
    try simp only [Act.put, List.getElem_toArray, List.getElem_cons_succ, List.getElem_cons_zero, List.setIfInBounds_toArray, List.set_cons_zero, List.set_cons_succ]
    refine wpAnyH_take (i := 9) (v := undef) rfl (by kernel_rfl) (by kernel_rfl) (by kernel_rfl) (fun _ _ _ h => h) (Or.inr ⟨by rfl, rfl⟩) (by assumption) ?_
    try simp only [Act.put, List.getElem_toArray, List.getElem_cons_succ, List.getElem_cons_zero, List.setIfInBounds_toArray, List.set_cons_zero, List.set_cons_succ]
    refine wpAnyH_take (i := 10) (v := undef) rfl (by kernel_rfl) (by kernel_rfl) (by kernel_rfl) (fun _ _ _ h => h) (Or.inr ⟨by rfl, rfl⟩) (by assumption) ?_
    try simp only [Act.put, List.getElem_toArray, List.getElem_cons_succ, List.getElem_cons_zero, List.setIfInBounds_toArray, List.set_cons_zero, List.set_cons_succ]
    refine wpAnyH_take (i := 11) (v := ?_) rfl (by kernel_rfl) (by kernel_rfl) (by kernel_rfl) (fun _ _ _ h => h) (Or.inl ⟨by rfl, ?_⟩) (by assumption) ?_
    rotate_left
    · (intro w hSw; (try dsimp only at hSw); go_simp; try with_reducible rfl)
    try simp only [Act.put, List.getElem_toArray, List.getElem_cons_succ, List.getElem_cons_zero, List.setIfInBounds_toArray, List.set_cons_zero, List.set_cons_succ]
    refine wpAnyH_take (i := 12) (v := ?_) rfl (by kernel_rfl) (by kernel_rfl) (by kernel_rfl) (fun _ _ _ h => h) (Or.inl ⟨by rfl, ?_⟩) (by assumption) ?_
    rotate_left
    · (intro w hSw; (try dsimp only at hSw); go_simp; try with_reducible rfl)
    try simp only [Act.put, List.getElem_toArray, List.getElem_cons_succ, List.getElem_cons_zero, List.setIfInBounds_toArray, List.set_cons_zero, List.set_cons_succ]
    refine wpAnyH_take (i := 13) (v := undef) rfl (by kernel_rfl) (by kernel_rfl) (by kernel_rfl) (fun _ _ _ h => h) (Or.inr ⟨by rfl, rfl⟩) (by assumption) ?_
    try simp only [Act.put, List.getElem_toArray, List.getElem_cons_succ, List.getElem_cons_zero, List.setIfInBounds_toArray, List.set_cons_zero, List.set_cons_succ]
    refine wpAnyH_take (i := 14) (v := undef) rfl (by kernel_rfl) (by kernel_rfl) (by kernel_rfl) (fun _ _ _ h => h) (Or.inr ⟨by rfl, rfl⟩) (by assumption) ?_
    try simp only [Act.put, List.getElem_toArray, List.getElem_cons_succ, List.getElem_cons_zero, List.setIfInBounds_toArray, List.set_cons_zero, List.set_cons_succ]
    refine wpAnyH_take (i := 15) (v := undef) rfl (by kernel_rfl) (by kernel_rfl) (by kernel_rfl) (fun _ _ _ h => h) (Or.inr ⟨by rfl, rfl⟩) (by assumption) ?_
    try simp only [Act.put, List.getElem_toArray, List.getElem_cons_succ, List.getElem_cons_zero, List.setIfInBounds_toArray, List.set_cons_zero, List.set_cons_succ]
    refine wpAnyH_take (i := 16) (v := undef) rfl (by kernel_rfl) (by kernel_rfl) (by kernel_rfl) (fun _ _ _ h => h) (Or.inr ⟨by rfl, rfl⟩) (by assumption) ?_
    try simp only [Act.put, List.getElem_toArray, List.getElem_cons_succ, List.getElem_cons_zero, List.setIfInBounds_toArray, List.set_cons_zero, List.set_cons_succ]
    refine wpAnyH_take (i := 17) (v := undef) rfl (by kernel_rfl) (by kernel_rfl) (by kernel_rfl) (fun _ _ _ h => h) (Or.inr ⟨by rfl, rfl⟩) (by assumption) ?_
    try simp only [Act.put, List.getElem_toArray, List.getElem_cons_succ, List.getElem_cons_zero, List.setIfInBounds_toArray, List.set_cons_zero, List.set_cons_succ]
    refine wpAnyH_take (i := 18) (v := ?_) rfl (by kernel_rfl) (by kernel_rfl) (by kernel_rfl) (fun _ _ _ h => h) (Or.inl ⟨by rfl, ?_⟩) (by assumption) ?_
    rotate_left
    · (intro w hSw; (try dsimp only at hSw); go_simp; try with_reducible rfl)
    try simp only [Act.put, List.getElem_toArray, List.getElem_cons_succ, List.getElem_cons_zero, List.setIfInBounds_toArray, List.set_cons_zero, List.set_cons_succ]
    refine wpAnyH_done (by kernel_rfl) ?_ _
    go_wp2_with fail
    go_ret
    exact ⟨rfl, HT1.out.trans HTc.out (by simp)⟩
  | false =>
    by_cases ha : pa = 0
    · have qa : (pa == 0) = true := by simpa using ha
      clear ha
      refine wpAnyH_take (i := 2) (v := ?_) rfl (by kernel_rfl) (by kernel_rfl) (by kernel_rfl) (fun _ _ _ h => h) (Or.inl ⟨by rfl, ?_⟩) (by assumption) ?_
      rotate_left
      · (intro w hSw; (try dsimp only at hSw); go_simp; try with_reducible rfl)
      try simp only [Act.put, List.getElem_toArray, List.getElem_cons_succ, List.getElem_cons_zero, List.setIfInBounds_toArray, List.set_cons_zero, List.set_cons_succ]
      refine wpAnyH_take (i := 3) (v := ?_) rfl (by kernel_rfl) (by kernel_rfl) (by kernel_rfl) (fun _ _ _ h => h) (Or.inl ⟨by rfl, ?_⟩) (by assumption) ?_
      rotate_left
      · (intro w hSw; (try dsimp only at hSw); go_simp; try with_reducible rfl)
      try simp only [Act.put, List.getElem_toArray, List.getElem_cons_succ, List.getElem_cons_zero, List.setIfInBounds_toArray, List.set_cons_zero, List.set_cons_succ]
      refine wpAnyH_ready (rs := [4]) (by kernel_rfl) (by simp) ?_
      refine AllReadyH.cons rfl (fun K hK => ?_) AllReadyH.nil
      try simp only [List.getElem_toArray, List.getElem_cons_succ, List.getElem_cons_zero]
      go_simp
      (go_at_call 20; (with_reducible refine (HPa.out _).mono ?_); rintro e r2 ⟨rfl, hT⟩; have HTc := Lib.hid (HTc.out.trans hT (by simp)); clear hT)
      try go_wp2_with fail
      refine hK.out _ _ (HS.out _ HTc.out) (fun hHeld => ?_)
      clear hK K
      try simp only [Act.put, List.getElem_toArray, List.getElem_cons_succ, List.getElem_cons_zero, List.setIfInBounds_toArray, List.set_cons_zero, List.set_cons_succ]
      refine wpAnyH_take (i := 5) (v := ?_) rfl (by kernel_rfl) (by kernel_rfl) (by kernel_rfl) (fun _ _ _ h => h) (Or.inl ⟨by rfl, ?_⟩) (by assumption) ?_
      rotate_left
      · (intro w hSw; (try dsimp only at hSw); go_simp; try with_reducible rfl)
      try simp only [Act.put, List.getElem_toArray, List.getElem_cons_succ, List.getElem_cons_zero, List.setIfInBounds_toArray, List.set_cons_zero, List.set_cons_succ]
      refine wpAnyH_take (i := 6) (v := ?_) rfl (by kernel_rfl) (by kernel_rfl) (by kernel_rfl) (fun _ _ _ h => h) (Or.inl ⟨by rfl, ?_⟩) (by assumption) ?_
      rotate_left
      · (intro w hSw; (try dsimp only at hSw); go_simp; try with_reducible rfl)
      try simp only [Act.put, List.getElem_toArray, List.getElem_cons_succ, List.getElem_cons_zero, List.setIfInBounds_toArray, List.set_cons_zero, List.set_cons_succ]
      refine wpAnyH_take (i := 7) (v := ?_) rfl (by kernel_rfl) (by kernel_rfl) (by kernel_rfl) (fun _ _ _ h => h) (Or.inl ⟨by rfl, ?_⟩) (by assumption) ?_
      rotate_left
      · (intro w hSw; (try dsimp only at hSw); go_simp; try with_reducible rfl)
      try simp only [Act.put, List.getElem_toArray, List.getElem_cons_succ, List.getElem_cons_zero, List.setIfInBounds_toArray, List.set_cons_zero, List.set_cons_succ]
      refine wpAnyH_take (i := 8) (v := undef) rfl (by kernel_rfl) (by kernel_rfl) (by kernel_rfl) (fun _ _ _ h => h) (Or.inr ⟨by rfl, rfl⟩) (by assumption) ?_
      try simp only [Act.put, List.getElem_toArray, List.getElem_cons_succ, List.getElem_cons_zero, List.setIfInBounds_toArray, List.set_cons_zero, List.set_cons_succ]
      refine wpAnyH_take (i := 9) (v := undef) rfl (by kernel_rfl) (by kernel_rfl) (by kernel_rfl) (fun _ _ _ h => h) (Or.inr ⟨by rfl, rfl⟩) (by assumption) ?_
      try simp only [Act.put, List.getElem_toArray, List.getElem_cons_succ, List.getElem_cons_zero, List.setIfInBounds_toArray, List.set_cons_zero, List.set_cons_succ]
      refine wpAnyH_take (i := 10) (v := undef) rfl (by kernel_rfl) (by kernel_rfl) (by kernel_rfl) (fun _ _ _ h => h) (Or.inr ⟨by rfl, rfl⟩) (by assumption) ?_
      try simp only [Act.put, List.getElem_toArray, List.getElem_cons_succ, List.getElem_cons_zero, List.setIfInBounds_toArray, List.set_cons_zero, List.set_cons_succ]
      refine wpAnyH_take (i := 11) (v := ?_) rfl (by kernel_rfl) (by kernel_rfl) (by kernel_rfl) (fun _ _ _ h => h) (Or.inl ⟨by rfl, ?_⟩) (by assumption) ?_
      rotate_left
      · (intro w hSw; (try dsimp only at hSw); go_simp; try with_reducible rfl)
      try simp only [Act.put, List.getElem_toArray, List.getElem_cons_succ, List.getElem_cons_zero, List.setIfInBounds_toArray, List.set_cons_zero, List.set_cons_succ]
      refine wpAnyH_take (i := 12) (v := ?_) rfl (by kernel_rfl) (by kernel_rfl) (by kernel_rfl) (fun _ _ _ h => h) (Or.inl ⟨by rfl, ?_⟩) (by assumption) ?_
      rotate_left
      · (intro w hSw; (try dsimp only at hSw); go_simp; try with_reducible rfl)
      try simp only [Act.put, List.getElem_toArray, List.getElem_cons_succ, List.getElem_cons_zero, List.setIfInBounds_toArray, List.set_cons_zero, List.set_cons_succ]
      refine wpAnyH_take (i := 13) (v := undef) rfl (by kernel_rfl) (by kernel_rfl) (by kernel_rfl) (fun _ _ _ h => h) (Or.inr ⟨by rfl, rfl⟩) (by assumption) ?_
      try simp only [Act.put, List.getElem_toArray, List.getElem_cons_succ, List.getElem_cons_zero, List.setIfInBounds_toArray, List.set_cons_zero, List.set_cons_succ]
      refine wpAnyH_take (i := 14) (v := undef) rfl (by kernel_rfl) (by kernel_rfl) (by kernel_rfl) (fun _ _ _ h => h) (Or.inr ⟨by rfl, rfl⟩) (by assumption) ?_
      try simp only [Act.put, List.getElem_toArray, List.getElem_cons_succ, List.getElem_cons_zero, List.setIfInBounds_toArray, List.set_cons_zero, List.set_cons_succ]
      refine wpAnyH_take (i := 15) (v := undef) rfl (by kernel_rfl) (by kernel_rfl) (by kernel_rfl) (fun _ _ _ h => h) (Or.inr ⟨by rfl, rfl⟩) (by assumption) ?_
      try simp only [Act.put, List.getElem_toArray, List.getElem_cons_succ, List.getElem_cons_zero, List.setIfInBounds_toArray, List.set_cons_zero, List.set_cons_succ]
      refine wpAnyH_take (i := 16) (v := undef) rfl (by kernel_rfl) (by kernel_rfl) (by kernel_rfl) (fun _ _ _ h => h) (Or.inr ⟨by rfl, rfl⟩) (by assumption) ?_
      try simp only [Act.put, List.getElem_toArray, List.getElem_cons_succ, List.getElem_cons_zero, List.setIfInBounds_toArray, List.set_cons_zero, List.set_cons_succ]
      refine wpAnyH_take (i := 17) (v := undef) rfl (by kernel_rfl) (by kernel_rfl) (by kernel_rfl) (fun _ _ _ h => h) (Or.inr ⟨by rfl, rfl⟩) (by assumption) ?_
      try simp only [Act.put, List.getElem_toArray, List.getElem_cons_succ, List.getElem_cons_zero, List.setIfInBounds_toArray, List.set_cons_zero, List.set_cons_succ]
      refine wpAnyH_take (i := 18) (v := ?_) rfl (by kernel_rfl) (by kernel_rfl) (by kernel_rfl) (fun _ _ _ h => h) (Or.inl ⟨by rfl, ?_⟩) (by assumption) ?_
      rotate_left
      · (intro w hSw; (try dsimp only at hSw); go_simp; try with_reducible rfl)
      try simp only [Act.put, List.getElem_toArray, List.getElem_cons_succ, List.getElem_cons_zero, List.setIfInBounds_toArray, List.set_cons_zero, List.set_cons_succ]
      refine wpAnyH_done (by kernel_rfl) ?_ _
      go_wp2_with fail
      go_ret
      exact ⟨rfl, HT1.out.trans HTc.out (by simp)⟩
    · have qa : (pa == 0) = false := by simpa using ha
      by_cases hb : pb = 0
      · have qb : (pb == 0) = true := by simpa using hb
        clear ha hb
        refine wpAnyH_take (i := 2) (v := ?_) rfl (by kernel_rfl) (by kernel_rfl) (by kernel_rfl) (fun _ _ _ h => h) (Or.inl ⟨by rfl, ?_⟩) (by assumption) ?_
        rotate_left
        · (intro w hSw; (try dsimp only at hSw); go_simp; try with_reducible rfl)
        try simp only [Act.put, List.getElem_toArray, List.getElem_cons_succ, List.getElem_cons_zero, List.setIfInBounds_toArray, List.set_cons_zero, List.set_cons_succ]
        refine wpAnyH_take (i := 3) (v := ?_) rfl (by kernel_rfl) (by kernel_rfl) (by kernel_rfl) (fun _ _ _ h => h) (Or.inl ⟨by rfl, ?_⟩) (by assumption) ?_
        rotate_left
        · (intro w hSw; (try dsimp only at hSw); go_simp; try with_reducible rfl)
        try simp only [Act.put, List.getElem_toArray, List.getElem_cons_succ, List.getElem_cons_zero, List.setIfInBounds_toArray, List.set_cons_zero, List.set_cons_succ]
        refine wpAnyH_ready (rs := [4]) (by kernel_rfl) (by simp) ?_
        refine AllReadyH.cons rfl (fun K hK => ?_) AllReadyH.nil
        try simp only [List.getElem_toArray, List.getElem_cons_succ, List.getElem_cons_zero]
        go_simp
        (go_at_call 20; (with_reducible refine (HPa.out _).mono ?_); rintro e r2 ⟨rfl, hT⟩; have HTc := Lib.hid (HTc.out.trans hT (by simp)); clear hT)
        try go_wp2_with fail
        refine hK.out _ _ (HS.out _ HTc.out) (fun hHeld => ?_)
        clear hK K
        try simp only [Act.put, List.getElem_toArray, List.getElem_cons_succ, List.getElem_cons_zero, List.setIfInBounds_toArray, List.set_cons_zero, List.set_cons_succ]
        refine wpAnyH_take (i := 5) (v := ?_) rfl (by kernel_rfl) (by kernel_rfl) (by kernel_rfl) (fun _ _ _ h => h) (Or.inl ⟨by rfl, ?_⟩) (by assumption) ?_
        rotate_left
        · (intro w hSw; (try dsimp only at hSw); go_simp; try with_reducible rfl)
        try simp only [Act.put, List.getElem_toArray, List.getElem_cons_succ, List.getElem_cons_zero, List.setIfInBounds_toArray, List.set_cons_zero, List.set_cons_succ]
        refine wpAnyH_take (i := 6) (v := ?_) rfl (by kernel_rfl) (by kernel_rfl) (by kernel_rfl) (fun _ _ _ h => h) (Or.inl ⟨by rfl, ?_⟩) (by assumption) ?_
        rotate_left
        · (intro w hSw; (try dsimp only at hSw); go_simp; try with_reducible rfl)
        try simp only [Act.put, List.getElem_toArray, List.getElem_cons_succ, List.getElem_cons_zero, List.setIfInBounds_toArray, List.set_cons_zero, List.set_cons_succ]
        refine wpAnyH_take (i := 7) (v := ?_) rfl (by kernel_rfl) (by kernel_rfl) (by kernel_rfl) (fun _ _ _ h => h) (Or.inl ⟨by rfl, ?_⟩) (by assumption) ?_
        rotate_left
        · (intro w hSw; (try dsimp only at hSw); go_simp; try with_reducible rfl)
        try simp only [Act.put, List.getElem_toArray, List.getElem_cons_succ, List.getElem_cons_zero, List.setIfInBounds_toArray, List.set_cons_zero, List.set_cons_succ]
        refine wpAnyH_take (i := 8) (v := ?_) rfl (by kernel_rfl) (by kernel_rfl) (by kernel_rfl) (fun _ _ _ h => h) (Or.inl ⟨by rfl, ?_⟩) (by assumption) ?_
        rotate_left
        · (intro w hSw; (try dsimp only at hSw); go_simp; try with_reducible rfl)
        try simp only [Act.put, List.getElem_toArray, List.getElem_cons_succ, List.getElem_cons_zero, List.setIfInBounds_toArray, List.set_cons_zero, List.set_cons_succ]
        refine wpAnyH_ready (rs := [9]) (by kernel_rfl) (by simp) ?_
        refine AllReadyH.cons rfl (fun K hK => ?_) AllReadyH.nil
        try simp only [List.getElem_toArray, List.getElem_cons_succ, List.getElem_cons_zero]
        go_simp
        (go_at_call 20; (with_reducible refine (HPb.out _).mono ?_); rintro e r3 ⟨rfl, hT⟩; have HTc := Lib.hid (HTc.out.trans hT (by simp)); clear hT)
        try go_wp2_with fail
        refine hK.out _ _ (HS.out _ HTc.out) (fun hHeld => ?_)
        clear hK K
        try simp only [Act.put, List.getElem_toArray, List.getElem_cons_succ, List.getElem_cons_zero, List.setIfInBounds_toArray, List.set_cons_zero, List.set_cons_succ]
        refine wpAnyH_take (i := 10) (v := ?_) rfl (by kernel_rfl) (by kernel_rfl) (by kernel_rfl) (fun _ _ _ h => h) (Or.inl ⟨by rfl, ?_⟩) (by assumption) ?_
        rotate_left
        · (intro w hSw; (try dsimp only at hSw); go_simp; try with_reducible rfl)
        try simp only [Act.put, List.getElem_toArray, List.getElem_cons_succ, List.getElem_cons_zero, List.setIfInBounds_toArray, List.set_cons_zero, List.set_cons_succ]
        refine wpAnyH_take (i := 11) (v := ?_) rfl (by kernel_rfl) (by kernel_rfl) (by kernel_rfl) (fun _ _ _ h => h) (Or.inl ⟨by rfl, ?_⟩) (by assumption) ?_
        rotate_left
        · (intro w hSw; (try dsimp only at hSw); go_simp; try with_reducible rfl)
        try simp only [Act.put, List.getElem_toArray, List.getElem_cons_succ, List.getElem_cons_zero, List.setIfInBounds_toArray, List.set_cons_zero, List.set_cons_succ]
        refine wpAnyH_take (i := 12) (v := ?_) rfl (by kernel_rfl) (by kernel_rfl) (by kernel_rfl) (fun _ _ _ h => h) (Or.inl ⟨by rfl, ?_⟩) (by assumption) ?_
        rotate_left
        · (intro w hSw; (try dsimp only at hSw); go_simp; try with_reducible rfl)
        try simp only [Act.put, List.getElem_toArray, List.getElem_cons_succ, List.getElem_cons_zero, List.setIfInBounds_toArray, List.set_cons_zero, List.set_cons_succ]
        refine wpAnyH_take (i := 13) (v := undef) rfl (by kernel_rfl) (by kernel_rfl) (by kernel_rfl) (fun _ _ _ h => h) (Or.inr ⟨by rfl, rfl⟩) (by assumption) ?_
        try simp only [Act.put, List.getElem_toArray, List.getElem_cons_succ, List.getElem_cons_zero, List.setIfInBounds_toArray, List.set_cons_zero, List.set_cons_succ]
        refine wpAnyH_take (i := 14) (v := undef) rfl (by kernel_rfl) (by kernel_rfl) (by kernel_rfl) (fun _ _ _ h => h) (Or.inr ⟨by rfl, rfl⟩) (by assumption) ?_
        try simp only [Act.put, List.getElem_toArray, List.getElem_cons_succ, List.getElem_cons_zero, List.setIfInBounds_toArray, List.set_cons_zero, List.set_cons_succ]
        refine wpAnyH_take (i := 15) (v := undef) rfl (by kernel_rfl) (by kernel_rfl) (by kernel_rfl) (fun _ _ _ h => h) (Or.inr ⟨by rfl, rfl⟩) (by assumption) ?_
        try simp only [Act.put, List.getElem_toArray, List.getElem_cons_succ, List.getElem_cons_zero, List.setIfInBounds_toArray, List.set_cons_zero, List.set_cons_succ]
        refine wpAnyH_take (i := 16) (v := undef) rfl (by kernel_rfl) (by kernel_rfl) (by kernel_rfl) (fun _ _ _ h => h) (Or.inr ⟨by rfl, rfl⟩) (by assumption) ?_
        try simp only [Act.put, List.getElem_toArray, List.getElem_cons_succ, List.getElem_cons_zero, List.setIfInBounds_toArray, List.set_cons_zero, List.set_cons_succ]
        refine wpAnyH_take (i := 17) (v := undef) rfl (by kernel_rfl) (by kernel_rfl) (by kernel_rfl) (fun _ _ _ h => h) (Or.inr ⟨by rfl, rfl⟩) (by assumption) ?_
        try simp only [Act.put, List.getElem_toArray, List.getElem_cons_succ, List.getElem_cons_zero, List.setIfInBounds_toArray, List.set_cons_zero, List.set_cons_succ]
        refine wpAnyH_take (i := 18) (v := ?_) rfl (by kernel_rfl) (by kernel_rfl) (by kernel_rfl) (fun _ _ _ h => h) (Or.inl ⟨by rfl, ?_⟩) (by assumption) ?_
        rotate_left
        · (intro w hSw; (try dsimp only at hSw); go_simp; try with_reducible rfl)
        try simp only [Act.put, List.getElem_toArray, List.getElem_cons_succ, List.getElem_cons_zero, List.setIfInBounds_toArray, List.set_cons_zero, List.set_cons_succ]
        refine wpAnyH_done (by kernel_rfl) ?_ _
        go_wp2_with fail
        go_ret
        exact ⟨rfl, HT1.out.trans HTc.out (by simp)⟩
      · have qb : (pb == 0) = false := by simpa using hb
        by_cases hab : pa = pb
        · have qab : (pa == pb) = true := by simpa using hab
          clear ha hb hab
          refine wpAnyH_take (i := 2) (v := ?_) rfl (by kernel_rfl) (by kernel_rfl) (by kernel_rfl) (fun _ _ _ h => h) (Or.inl ⟨by rfl, ?_⟩) (by assumption) ?_
          rotate_left
          · (intro w hSw; (try dsimp only at hSw); go_simp; try with_reducible rfl)
          try simp only [Act.put, List.getElem_toArray, List.getElem_cons_succ, List.getElem_cons_zero, List.setIfInBounds_toArray, List.set_cons_zero, List.set_cons_succ]
          refine wpAnyH_take (i := 3) (v := ?_) rfl (by kernel_rfl) (by kernel_rfl) (by kernel_rfl) (fun _ _ _ h => h) (Or.inl ⟨by rfl, ?_⟩) (by assumption) ?_
          rotate_left
          · (intro w hSw; (try dsimp only at hSw); go_simp; try with_reducible rfl)
          try simp only [Act.put, List.getElem_toArray, List.getElem_cons_succ, List.getElem_cons_zero, List.setIfInBounds_toArray, List.set_cons_zero, List.set_cons_succ]
          refine wpAnyH_ready (rs := [4]) (by kernel_rfl) (by simp) ?_
          refine AllReadyH.cons rfl (fun K hK => ?_) AllReadyH.nil
          try simp only [List.getElem_toArray, List.getElem_cons_succ, List.getElem_cons_zero]
          go_simp
          (go_at_call 20; (with_reducible refine (HPa.out _).mono ?_); rintro e r2 ⟨rfl, hT⟩; have HTc := Lib.hid (HTc.out.trans hT (by simp)); clear hT)
          try go_wp2_with fail
          refine hK.out _ _ (HS.out _ HTc.out) (fun hHeld => ?_)
          clear hK K
          try simp only [Act.put, List.getElem_toArray, List.getElem_cons_succ, List.getElem_cons_zero, List.setIfInBounds_toArray, List.set_cons_zero, List.set_cons_succ]
          refine wpAnyH_take (i := 5) (v := ?_) rfl (by kernel_rfl) (by kernel_rfl) (by kernel_rfl) (fun _ _ _ h => h) (Or.inl ⟨by rfl, ?_⟩) (by assumption) ?_
          rotate_left
          · (intro w hSw; (try dsimp only at hSw); go_simp; try with_reducible rfl)
          try simp only [Act.put, List.getElem_toArray, List.getElem_cons_succ, List.getElem_cons_zero, List.setIfInBounds_toArray, List.set_cons_zero, List.set_cons_succ]
          refine wpAnyH_take (i := 6) (v := ?_) rfl (by kernel_rfl) (by kernel_rfl) (by kernel_rfl) (fun _ _ _ h => h) (Or.inl ⟨by rfl, ?_⟩) (by assumption) ?_
          rotate_left
          · (intro w hSw; (try dsimp only at hSw); go_simp; try with_reducible rfl)
          try simp only [Act.put, List.getElem_toArray, List.getElem_cons_succ, List.getElem_cons_zero, List.setIfInBounds_toArray, List.set_cons_zero, List.set_cons_succ]
          refine wpAnyH_take (i := 7) (v := ?_) rfl (by kernel_rfl) (by kernel_rfl) (by kernel_rfl) (fun _ _ _ h => h) (Or.inl ⟨by rfl, ?_⟩) (by assumption) ?_
          rotate_left
          · (intro w hSw; (try dsimp only at hSw); go_simp; try with_reducible rfl)
          try simp only [Act.put, List.getElem_toArray, List.getElem_cons_succ, List.getElem_cons_zero, List.setIfInBounds_toArray, List.set_cons_zero, List.set_cons_succ]
          refine wpAnyH_take (i := 8) (v := ?_) rfl (by kernel_rfl) (by kernel_rfl) (by kernel_rfl) (fun _ _ _ h => h) (Or.inl ⟨by rfl, ?_⟩) (by assumption) ?_
          rotate_left
          · (intro w hSw; (try dsimp only at hSw); go_simp; try with_reducible rfl)
          try simp only [Act.put, List.getElem_toArray, List.getElem_cons_succ, List.getElem_cons_zero, List.setIfInBounds_toArray, List.set_cons_zero, List.set_cons_succ]
          refine wpAnyH_ready (rs := [9]) (by kernel_rfl) (by simp) ?_
          refine AllReadyH.cons rfl (fun K hK => ?_) AllReadyH.nil
          try simp only [List.getElem_toArray, List.getElem_cons_succ, List.getElem_cons_zero]
          go_simp
          (go_at_call 20; (with_reducible refine (HPb.out _).mono ?_); rintro e r3 ⟨rfl, hT⟩; have HTc := Lib.hid (HTc.out.trans hT (by simp)); clear hT)
          try go_wp2_with fail
          refine hK.out _ _ (HS.out _ HTc.out) (fun hHeld => ?_)
          clear hK K
          try simp only [Act.put, List.getElem_toArray, List.getElem_cons_succ, List.getElem_cons_zero, List.setIfInBounds_toArray, List.set_cons_zero, List.set_cons_succ]
          refine wpAnyH_take (i := 10) (v := ?_) rfl (by kernel_rfl) (by kernel_rfl) (by kernel_rfl) (fun _ _ _ h => h) (Or.inl ⟨by rfl, ?_⟩) (by assumption) ?_
          rotate_left
          · (intro w hSw; (try dsimp only at hSw); go_simp; try with_reducible rfl)
          try simp only [Act.put, List.getElem_toArray, List.getElem_cons_succ, List.getElem_cons_zero, List.setIfInBounds_toArray, List.set_cons_zero, List.set_cons_succ]
          refine wpAnyH_take (i := 11) (v := ?_) rfl (by kernel_rfl) (by kernel_rfl) (by kernel_rfl) (fun _ _ _ h => h) (Or.inl ⟨by rfl, ?_⟩) (by assumption) ?_
          rotate_left
          · (intro w hSw; (try dsimp only at hSw); go_simp; try with_reducible rfl)
          try simp only [Act.put, List.getElem_toArray, List.getElem_cons_succ, List.getElem_cons_zero, List.setIfInBounds_toArray, List.set_cons_zero, List.set_cons_succ]
          refine wpAnyH_take (i := 12) (v := ?_) rfl (by kernel_rfl) (by kernel_rfl) (by kernel_rfl) (fun _ _ _ h => h) (Or.inl ⟨by rfl, ?_⟩) (by assumption) ?_
          rotate_left
          · (intro w hSw; (try dsimp only at hSw); go_simp; try with_reducible rfl)
          try simp only [Act.put, List.getElem_toArray, List.getElem_cons_succ, List.getElem_cons_zero, List.setIfInBounds_toArray, List.set_cons_zero, List.set_cons_succ]
          refine wpAnyH_take (i := 13) (v := ?_) rfl (by kernel_rfl) (by kernel_rfl) (by kernel_rfl) (fun _ _ _ h => h) (Or.inl ⟨by rfl, ?_⟩) (by assumption) ?_
          rotate_left
          · (intro w hSw; (try dsimp only at hSw); go_simp; try with_reducible rfl)
          try simp only [Act.put, List.getElem_toArray, List.getElem_cons_succ, List.getElem_cons_zero, List.setIfInBounds_toArray, List.set_cons_zero, List.set_cons_succ]
          refine wpAnyH_take (i := 15) (v := ?_) rfl (by kernel_rfl) (by kernel_rfl) (by kernel_rfl) (fun _ _ _ h => h) (Or.inl ⟨by rfl, ?_⟩) (by assumption) ?_
          rotate_left
          · (intro w hSw; (try dsimp only at hSw); go_simp; try with_reducible rfl)
          try simp only [Act.put, List.getElem_toArray, List.getElem_cons_succ, List.getElem_cons_zero, List.setIfInBounds_toArray, List.set_cons_zero, List.set_cons_succ]
          refine wpAnyH_ready (rs := [14]) (by kernel_rfl) (by simp) ?_
          refine AllReadyH.cons rfl (fun K hK => ?_) AllReadyH.nil
          try simp only [List.getElem_toArray, List.getElem_cons_succ, List.getElem_cons_zero]
          go_simp
          (go_at_call 20; (with_reducible refine (HPa.out _).mono ?_); rintro e r2 ⟨rfl, hT⟩; have HTc := Lib.hid (HTc.out.trans hT (by simp)); clear hT)
          try go_wp2_with fail
          refine hK.out _ _ (HS.out _ HTc.out) (fun hHeld => ?_)
          clear hK K
          try simp only [Act.put, List.getElem_toArray, List.getElem_cons_succ, List.getElem_cons_zero, List.setIfInBounds_toArray, List.set_cons_zero, List.set_cons_succ]
          refine wpAnyH_ready (rs := [16]) (by kernel_rfl) (by simp) ?_
          refine AllReadyH.cons rfl (fun K hK => ?_) AllReadyH.nil
          try simp only [List.getElem_toArray, List.getElem_cons_succ, List.getElem_cons_zero]
          go_simp
          (go_at_call 20; (with_reducible refine (HPb.out _).mono ?_); rintro e r3 ⟨rfl, hT⟩; have HTc := Lib.hid (HTc.out.trans hT (by simp)); clear hT)
          try go_wp2_with fail
          refine hK.out _ _ (HS.out _ HTc.out) (fun hHeld => ?_)
          clear hK K
          try simp only [Act.put, List.getElem_toArray, List.getElem_cons_succ, List.getElem_cons_zero, List.setIfInBounds_toArray, List.set_cons_zero, List.set_cons_succ]
          refine wpAnyH_take (i := 17) (v := ?_) rfl (by kernel_rfl) (by kernel_rfl) (by kernel_rfl) (fun _ _ _ h => h) (Or.inl ⟨by rfl, ?_⟩) (by assumption) ?_
          rotate_left
          · (intro w hSw; (try dsimp only at hSw); go_simp; try with_reducible rfl)
          try simp only [Act.put, List.getElem_toArray, List.getElem_cons_succ, List.getElem_cons_zero, List.setIfInBounds_toArray, List.set_cons_zero, List.set_cons_succ]
          refine wpAnyH_take (i := 18) (v := ?_) rfl (by kernel_rfl) (by kernel_rfl) (by kernel_rfl) (fun _ _ _ h => h) (Or.inl ⟨by rfl, ?_⟩) (by assumption) ?_
          rotate_left
          · (intro w hSw; (try dsimp only at hSw); go_simp; try with_reducible rfl)
          try simp only [Act.put, List.getElem_toArray, List.getElem_cons_succ, List.getElem_cons_zero, List.setIfInBounds_toArray, List.set_cons_zero, List.set_cons_succ]
          refine wpAnyH_done (by kernel_rfl) ?_ _
          go_wp2_with fail
          go_ret
          exact ⟨rfl, HT1.out.trans HTc.out (by simp)⟩
        · have qab : (pa == pb) = false := by simpa using hab
          have HEi2 := Lib.hid (fun m => HEi.out m ha hb hab)
          clear ha hb hab
          refine wpAnyH_take (i := 2) (v := ?_) rfl (by kernel_rfl) (by kernel_rfl) (by kernel_rfl) (fun _ _ _ h => h) (Or.inl ⟨by rfl, ?_⟩) (by assumption) ?_
          rotate_left
          · (intro w hSw; (try dsimp only at hSw); go_simp; try with_reducible rfl)
          try simp only [Act.put, List.getElem_toArray, List.getElem_cons_succ, List.getElem_cons_zero, List.setIfInBounds_toArray, List.set_cons_zero, List.set_cons_succ]
          refine wpAnyH_take (i := 3) (v := ?_) rfl (by kernel_rfl) (by kernel_rfl) (by kernel_rfl) (fun _ _ _ h => h) (Or.inl ⟨by rfl, ?_⟩) (by assumption) ?_
          rotate_left
          · (intro w hSw; (try dsimp only at hSw); go_simp; try with_reducible rfl)
          try simp only [Act.put, List.getElem_toArray, List.getElem_cons_succ, List.getElem_cons_zero, List.setIfInBounds_toArray, List.set_cons_zero, List.set_cons_succ]
          refine wpAnyH_ready (rs := [4]) (by kernel_rfl) (by simp) ?_
          refine AllReadyH.cons rfl (fun K hK => ?_) AllReadyH.nil
          try simp only [List.getElem_toArray, List.getElem_cons_succ, List.getElem_cons_zero]
          go_simp
          (go_at_call 20; (with_reducible refine (HPa.out _).mono ?_); rintro e r2 ⟨rfl, hT⟩; have HTc := Lib.hid (HTc.out.trans hT (by simp)); clear hT)
          try go_wp2_with fail
          refine hK.out _ _ (HS.out _ HTc.out) (fun hHeld => ?_)
          clear hK K
          try simp only [Act.put, List.getElem_toArray, List.getElem_cons_succ, List.getElem_cons_zero, List.setIfInBounds_toArray, List.set_cons_zero, List.set_cons_succ]
          refine wpAnyH_take (i := 5) (v := ?_) rfl (by kernel_rfl) (by kernel_rfl) (by kernel_rfl) (fun _ _ _ h => h) (Or.inl ⟨by rfl, ?_⟩) (by assumption) ?_
          rotate_left
          · (intro w hSw; (try dsimp only at hSw); go_simp; try with_reducible rfl)
          try simp only [Act.put, List.getElem_toArray, List.getElem_cons_succ, List.getElem_cons_zero, List.setIfInBounds_toArray, List.set_cons_zero, List.set_cons_succ]
          refine wpAnyH_take (i := 6) (v := ?_) rfl (by kernel_rfl) (by kernel_rfl) (by kernel_rfl) (fun _ _ _ h => h) (Or.inl ⟨by rfl, ?_⟩) (by assumption) ?_
          rotate_left
          · (intro w hSw; (try dsimp only at hSw); go_simp; try with_reducible rfl)
          try simp only [Act.put, List.getElem_toArray, List.getElem_cons_succ, List.getElem_cons_zero, List.setIfInBounds_toArray, List.set_cons_zero, List.set_cons_succ]
          refine wpAnyH_take (i := 7) (v := ?_) rfl (by kernel_rfl) (by kernel_rfl) (by kernel_rfl) (fun _ _ _ h => h) (Or.inl ⟨by rfl, ?_⟩) (by assumption) ?_
          rotate_left
          · (intro w hSw; (try dsimp only at hSw); go_simp; try with_reducible rfl)
          try simp only [Act.put, List.getElem_toArray, List.getElem_cons_succ, List.getElem_cons_zero, List.setIfInBounds_toArray, List.set_cons_zero, List.set_cons_succ]
          refine wpAnyH_take (i := 8) (v := ?_) rfl (by kernel_rfl) (by kernel_rfl) (by kernel_rfl) (fun _ _ _ h => h) (Or.inl ⟨by rfl, ?_⟩) (by assumption) ?_
          rotate_left
          · (intro w hSw; (try dsimp only at hSw); go_simp; try with_reducible rfl)
          try simp only [Act.put, List.getElem_toArray, List.getElem_cons_succ, List.getElem_cons_zero, List.setIfInBounds_toArray, List.set_cons_zero, List.set_cons_succ]
          refine wpAnyH_ready (rs := [9]) (by kernel_rfl) (by simp) ?_
          refine AllReadyH.cons rfl (fun K hK => ?_) AllReadyH.nil
          try simp only [List.getElem_toArray, List.getElem_cons_succ, List.getElem_cons_zero]
          go_simp
          (go_at_call 20; (with_reducible refine (HPb.out _).mono ?_); rintro e r3 ⟨rfl, hT⟩; have HTc := Lib.hid (HTc.out.trans hT (by simp)); clear hT)
          try go_wp2_with fail
          refine hK.out _ _ (HS.out _ HTc.out) (fun hHeld => ?_)
          clear hK K
          try simp only [Act.put, List.getElem_toArray, List.getElem_cons_succ, List.getElem_cons_zero, List.setIfInBounds_toArray, List.set_cons_zero, List.set_cons_succ]
          refine wpAnyH_take (i := 10) (v := ?_) rfl (by kernel_rfl) (by kernel_rfl) (by kernel_rfl) (fun _ _ _ h => h) (Or.inl ⟨by rfl, ?_⟩) (by assumption) ?_
          rotate_left
          · (intro w hSw; (try dsimp only at hSw); go_simp; try with_reducible rfl)
          try simp only [Act.put, List.getElem_toArray, List.getElem_cons_succ, List.getElem_cons_zero, List.setIfInBounds_toArray, List.set_cons_zero, List.set_cons_succ]
          refine wpAnyH_take (i := 11) (v := ?_) rfl (by kernel_rfl) (by kernel_rfl) (by kernel_rfl) (fun _ _ _ h => h) (Or.inl ⟨by rfl, ?_⟩) (by assumption) ?_
          rotate_left
          · (intro w hSw; (try dsimp only at hSw); go_simp; try with_reducible rfl)
          try simp only [Act.put, List.getElem_toArray, List.getElem_cons_succ, List.getElem_cons_zero, List.setIfInBounds_toArray, List.set_cons_zero, List.set_cons_succ]
          refine wpAnyH_take (i := 12) (v := ?_) rfl (by kernel_rfl) (by kernel_rfl) (by kernel_rfl) (fun _ _ _ h => h) (Or.inl ⟨by rfl, ?_⟩) (by assumption) ?_
          rotate_left
          · (intro w hSw; (try dsimp only at hSw); go_simp; try with_reducible rfl)
          try simp only [Act.put, List.getElem_toArray, List.getElem_cons_succ, List.getElem_cons_zero, List.setIfInBounds_toArray, List.set_cons_zero, List.set_cons_succ]
          refine wpAnyH_take (i := 13) (v := ?_) rfl (by kernel_rfl) (by kernel_rfl) (by kernel_rfl) (fun _ _ _ h => h) (Or.inl ⟨by rfl, ?_⟩) (by assumption) ?_
          rotate_left
          · (intro w hSw; (try dsimp only at hSw); go_simp; try with_reducible rfl)
          try simp only [Act.put, List.getElem_toArray, List.getElem_cons_succ, List.getElem_cons_zero, List.setIfInBounds_toArray, List.set_cons_zero, List.set_cons_succ]
          refine wpAnyH_take (i := 15) (v := ?_) rfl (by kernel_rfl) (by kernel_rfl) (by kernel_rfl) (fun _ _ _ h => h) (Or.inl ⟨by rfl, ?_⟩) (by assumption) ?_
          rotate_left
          · (intro w hSw; (try dsimp only at hSw); go_simp; try with_reducible rfl)
          try simp only [Act.put, List.getElem_toArray, List.getElem_cons_succ, List.getElem_cons_zero, List.setIfInBounds_toArray, List.set_cons_zero, List.set_cons_succ]
          refine wpAnyH_ready (rs := [14]) (by kernel_rfl) (by simp) ?_
          refine AllReadyH.cons rfl (fun K hK => ?_) AllReadyH.nil
          try simp only [List.getElem_toArray, List.getElem_cons_succ, List.getElem_cons_zero]
          go_simp
          (go_at_call 20; (with_reducible refine (HPa.out _).mono ?_); rintro e r2 ⟨rfl, hT⟩; have HTc := Lib.hid (HTc.out.trans hT (by simp)); clear hT)
          try go_wp2_with fail
          refine hK.out _ _ (HS.out _ HTc.out) (fun hHeld => ?_)
          clear hK K
          try simp only [Act.put, List.getElem_toArray, List.getElem_cons_succ, List.getElem_cons_zero, List.setIfInBounds_toArray, List.set_cons_zero, List.set_cons_succ]
          refine wpAnyH_ready (rs := [16]) (by kernel_rfl) (by simp) ?_
          refine AllReadyH.cons rfl (fun K hK => ?_) AllReadyH.nil
          try simp only [List.getElem_toArray, List.getElem_cons_succ, List.getElem_cons_zero]
          go_simp
          (go_at_call 20; (with_reducible refine (HPb.out _).mono ?_); rintro e r3 ⟨rfl, hT⟩; have HTc := Lib.hid (HTc.out.trans hT (by simp)); clear hT)
          try go_wp2_with fail
          refine hK.out _ _ (HS.out _ HTc.out) (fun hHeld => ?_)
          clear hK K
          try simp only [Act.put, List.getElem_toArray, List.getElem_cons_succ, List.getElem_cons_zero, List.setIfInBounds_toArray, List.set_cons_zero, List.set_cons_succ]
          refine wpAnyH_take (i := 17) (v := ?_) rfl (by kernel_rfl) (by kernel_rfl) (by kernel_rfl) (fun _ _ _ h => h) (Or.inl ⟨by rfl, ?_⟩) (by assumption) ?_
          rotate_left
          · (intro w hSw; (try dsimp only at hSw); go_simp; try with_reducible rfl)
          try simp only [Act.put, List.getElem_toArray, List.getElem_cons_succ, List.getElem_cons_zero, List.setIfInBounds_toArray, List.set_cons_zero, List.set_cons_succ]
          refine wpAnyH_take (i := 18) (v := ?_) rfl (by kernel_rfl) (by kernel_rfl) (by kernel_rfl) (fun _ _ _ h => h) (Or.inl ⟨by rfl, ?_⟩) (by assumption) ?_
          rotate_left
          · (intro w hSw; (try dsimp only at hSw); go_simp; try with_reducible rfl)
          try simp only [Act.put, List.getElem_toArray, List.getElem_cons_succ, List.getElem_cons_zero, List.setIfInBounds_toArray, List.set_cons_zero, List.set_cons_succ]
          refine wpAnyH_done (by kernel_rfl) ?_ _
          go_wp2_with fail
          refine (new_any _).mono ?_
          rintro e w3 ⟨rfl, hM, hT⟩
          have HM3 := Lib.hid hM
          have HT3 := Lib.hid ((HT1.out.trans HTc.out (by simp)).trans hT (by simp))
          have HB3 := Lib.hid (HB1.out.turn (HTc.out.trans hT (by simp)) (by simp) (by simp))
          have HS3 : Hid (w.heap.size + 2 ≤ r3.heap.size) := Lib.hid (by have h1 := HT1.out.size; have h2 := HTc.out.size; have h3 := (Array.getElem?_eq_some_iff.1 HB1.out.2).1; omega)
          clear hM hT qa qb qab HTc
          go_wp2_with fail
          go_loopw [9, 39] (fun _ i wr => ∃ k : Nat, k ≤ len ∧ i = .int .i64 k ∧ ∃ m, Since w3 r3.heap.size [r3.heap.size] wr m) (fun _ i _ => len - (intOf i).toNat)
          case atStart => exact ⟨0, Nat.zero_le _, rfl, _, Since.start HM3.out⟩
          case round =>
            obtain ⟨k, hk, rfl, m, hS⟩ := hrel
            obtain ⟨wo, rfl⟩ : ∃ wo : World, wo = wr := ⟨_, rfl⟩
            have HSo := Lib.hid hS
            have HTo : Hid (Frm.Turn [] w wo) := Lib.hid (HT3.out.trans hS.turn (fun x hx => by simp at hx; subst hx; right; have := HS3.out; omega))
            clear hS
            by_cases hlt : k < len
            · obtain ⟨bl, off, rfl, s, ok, d0, d1, d2, d3, d4, d5, d6⟩ := steps_one (H.out.step HTo.out) hlt
              have hbl := cell_lt d0
              obtain ⟨F, hM, hN⟩ := HSo.out.at_
              have HNo := Lib.hid hN
              have HMo := Lib.hid hM
              have HAp : Hid (∀ W, Frm.Turn [] wo W → Calls Tryd.prog 11 #[.pointer (some ⟨r3.heap.size, 0, none⟩), .agg #[.int .i64 s.o.c, .int .i64 s.o.k, .int .i64 s.o.a, .int .i64 s.o.b]] W (MEnd W r3.heap.size F (appOp m s.o.c s.o.k s.o.a s.o.b))) := Lib.hid (fun W hT => apply_any (HMo.out.step hT) (HK.out.turn (HTo.out.trans hT (by simp))) _ _ _ _)
              have HTa := Lib.hid (fun o => (Frm.Turn.refl [] wo).alloc o)
              clear hM hN
              go_wp2_with fail
              refine (HAp.out _ (HTa.out _)).mono ?_
              rintro e we ⟨rfl, F1, hM1, hT1, hN1⟩
              have HMe := Lib.hid hM1
              have HTe := Lib.hid hT1
              have HNe := Lib.hid hN1
              clear hM1 hT1 hN1
              go_wp2_with fail
              go_roundw
              case rel => exact ⟨k + 1, by omega, by go_num, _, Since.apply HNo.out HSo.out.turn (HTa.out _) HMe.out HTe.out HNe.out (Frm.Turn.refl _ _)⟩
              case measure => simp [intOf]; omega
            · obtain rfl : k = len := by omega
              obtain ⟨F, hM, hN⟩ := HSo.out.at_
              have HMm := Lib.hid hM
              have HNo := Lib.hid hN
              clear hM hN
              go_wp2_with fail
              refine (clone_any HMm.out).mono ?_
              rintro e w4 ⟨b2, F2, rfl, hM2, hN2, hT4⟩
              have HMn := Lib.hid hM2
              have HN2 := Lib.hid hN2
              have HT4 := Lib.hid hT4
              clear hM2 hN2 hT4
              have hF : ∀ x, x ∈ F ++ F2 → w.heap.size + 2 ≤ x := fun x hx => by
                have h1 := HS3.out
                have h2 := HT3.out.size
                rcases List.mem_append.1 hx with h | h
                · rcases HNo.out x h with h3 | h3
                  · simp at h3; omega
                  · have := (Array.getElem?_eq_some_iff.1 HB3.out.2).1; omega
                · have h3 := HN2.out x h
                  have h4 := HSo.out.turn.size
                  have := (Array.getElem?_eq_some_iff.1 HB3.out.2).1
                  omega
              have HF := Lib.hid hF
              clear hF
              have HX0 : Hid (Two w4 w4 r3.heap.size b2 F F2 m m F F2) := Lib.hid ⟨Frm.Turn.refl _ _, HMm.out.step HT4.out, HMn.out, fun k hk => Or.inl hk, fun k hk => Or.inl hk, fun k hk hm => by have := HMm.out.lt k hk; have := HN2.out k hm; omega⟩
              have HB4 : Hid (Boxes w o p w4) := Lib.hid ((HB3.out.turn HSo.out.turn (by simp; have := HS3.out; omega) (by simp; have := HS3.out; omega)).turn HT4.out (by simp) (by simp))
              have HTW : Hid (∀ W mc nc Fc Fd, Two w4 W r3.heap.size b2 F F2 mc nc Fc Fd → Frm.Turn [] w W) := Lib.hid (fun W mc nc Fc Fd h => (HTo.out.trans HT4.out (by simp)).trans h.turn (fun x hx => Or.inr (by have := HF.out x hx; omega)))
              have HS : Hid (∀ W mc nc Fc Fd, Two w4 W r3.heap.size b2 F F2 mc nc Fc Fd → Eight w o p W) := Lib.hid (fun W mc nc Fc Fd h => (HB4.out.turn h.turn (fun hm => by have := HF.out _ hm; omega) (fun hm => by have := HF.out _ hm; omega)).eight)
              unfold Eight at HS
              have HE := Lib.hid (HEi2.out m)
              obtain ⟨z1, hz1⟩ : ∃ z, z = appOp m o.c o.k o.a o.b := ⟨_, rfl⟩
              obtain ⟨m1, x1, y1⟩ := z1
              obtain ⟨z2, hz2⟩ : ∃ z, z = appOp m1 p.c p.k p.a p.b := ⟨_, rfl⟩
              obtain ⟨m2, x2, y2⟩ := z2
              obtain ⟨z3, hz3⟩ : ∃ z, z = appOp m p.c p.k p.a p.b := ⟨_, rfl⟩
              obtain ⟨n1, u1, v1⟩ := z3
              obtain ⟨z4, hz4⟩ : ∃ z, z = appOp n1 o.c o.k o.a o.b := ⟨_, rfl⟩
              obtain ⟨n2, u2, v2⟩ := z4
              have hE := HE.out
              unfold Either at hE
              rw [← hz1, ← hz3] at hE
              simp only at hE
              rw [← hz2, ← hz4] at hE
              simp only [Prod.mk.injEq] at hE
              obtain ⟨⟨e1, e2⟩, ⟨e3, e4⟩, e5⟩ := hE
              subst e1 e2 e3 e4 e5
              have HA1 : Hid (∀ W Fc Fd, Two w4 W r3.heap.size b2 F F2 m m Fc Fd → Calls Tryd.prog 11 #[.pointer (some ⟨r3.heap.size, 0, none⟩), .agg #[.int .i64 o.c, .int .i64 o.k, .int .i64 o.a, .int .i64 o.b]] W (MEnd W r3.heap.size Fc (m1, (x1, y1)))) := Lib.hid (fun W Fc Fd h => by rw [hz1]; exact apply_any h.m1 (HK.out.turn (HTW.out _ _ _ _ _ h)) _ _ _ _)
              have HA2 : Hid (∀ W Fc Fd, Two w4 W r3.heap.size b2 F F2 m1 m Fc Fd → Calls Tryd.prog 11 #[.pointer (some ⟨r3.heap.size, 0, none⟩), .agg #[.int .i64 p.c, .int .i64 p.k, .int .i64 p.a, .int .i64 p.b]] W (MEnd W r3.heap.size Fc (m2, (u1, v1)))) := Lib.hid (fun W Fc Fd h => by rw [hz2]; exact apply_any h.m1 (HK.out.turn (HTW.out _ _ _ _ _ h)) _ _ _ _)
              have HA3 : Hid (∀ W Fc Fd, Two w4 W r3.heap.size b2 F F2 m2 m Fc Fd → Calls Tryd.prog 11 #[.pointer (some ⟨b2, 0, none⟩), .agg #[.int .i64 p.c, .int .i64 p.k, .int .i64 p.a, .int .i64 p.b]] W (MEnd W b2 Fd (n1, (u1, v1)))) := Lib.hid (fun W Fc Fd h => by rw [hz3]; exact apply_any h.m2 (HK.out.turn (HTW.out _ _ _ _ _ h)) _ _ _ _)
              have HA4 : Hid (∀ W Fc Fd, Two w4 W r3.heap.size b2 F F2 m2 n1 Fc Fd → Calls Tryd.prog 11 #[.pointer (some ⟨b2, 0, none⟩), .agg #[.int .i64 o.c, .int .i64 o.k, .int .i64 o.a, .int .i64 o.b]] W (MEnd W b2 Fd (m2, (x1, y1)))) := Lib.hid (fun W Fc Fd h => by rw [hz4]; exact apply_any h.m2 (HK.out.turn (HTW.out _ _ _ _ _ h)) _ _ _ _)
              clear hz1 hz2 hz3 hz4
              go_upto_region 12 with fail
              go_cut [11, 12] (fun s11 s12 W => Cut2 w4 r3.heap.size b2 F F2 m2 m x1 y1 u1 v1 s11 s12 W)
              case first =>
                have HX := Lib.hid (HX0.out.step ((Frm.Turn.refl [] w4).drew))
                refine wp_region_held_drew (S := fun W' => (W'.cell? ⟨w.heap.size, 0, none⟩ = some (.int .i64 o.c) ∧ W'.cell? ⟨w.heap.size, 1, none⟩ = some (.int .i64 o.k) ∧ W'.cell? ⟨w.heap.size, 2, none⟩ = some (.int .i64 o.a) ∧ W'.cell? ⟨w.heap.size, 3, none⟩ = some (.int .i64 o.b)) ∧ W'.cell? ⟨w.heap.size + 1, 0, none⟩ = some (.int .i64 p.c) ∧ W'.cell? ⟨w.heap.size + 1, 1, none⟩ = some (.int .i64 p.k) ∧ W'.cell? ⟨w.heap.size + 1, 2, none⟩ = some (.int .i64 p.a) ∧ W'.cell? ⟨w.heap.size + 1, 3, none⟩ = some (.int .i64 p.b)) (by kernel_rfl) ?_ (fun hHeld => ?_)
                · exact HS.out _ _ _ _ _ HX.out
                generalize World.drew w4 = wd at HX hHeld ⊢
                refine wpAnyH_take (i := 0) (v := ?_) rfl (by kernel_rfl) (by kernel_rfl) (by kernel_rfl) (fun _ _ _ h => h) (Or.inl ⟨by rfl, ?_⟩) (by assumption) ?_
                rotate_left
                · (intro w hSw; (try dsimp only at hSw); go_simp; try with_reducible rfl)
                try simp only [Act.put, List.getElem_toArray, List.getElem_cons_succ, List.getElem_cons_zero, List.setIfInBounds_toArray, List.set_cons_zero, List.set_cons_succ]
                refine wpAnyH_take (i := 1) (v := ?_) rfl (by kernel_rfl) (by kernel_rfl) (by kernel_rfl) (fun _ _ _ h => h) (Or.inl ⟨by rfl, ?_⟩) (by assumption) ?_
                rotate_left
                · (intro w hSw; (try dsimp only at hSw); go_simp; try with_reducible rfl)
                try simp only [Act.put, List.getElem_toArray, List.getElem_cons_succ, List.getElem_cons_zero, List.setIfInBounds_toArray, List.set_cons_zero, List.set_cons_succ]
                refine wpAnyH_take (i := 3) (v := ?_) rfl (by kernel_rfl) (by kernel_rfl) (by kernel_rfl) (fun _ _ _ h => h) (Or.inl ⟨by rfl, ?_⟩) (by assumption) ?_
                rotate_left
                · (intro w hSw; (try dsimp only at hSw); go_simp; try with_reducible rfl)
                try simp only [Act.put, List.getElem_toArray, List.getElem_cons_succ, List.getElem_cons_zero, List.setIfInBounds_toArray, List.set_cons_zero, List.set_cons_succ]
                refine wpAnyH_take (i := 4) (v := ?_) rfl (by kernel_rfl) (by kernel_rfl) (by kernel_rfl) (fun _ _ _ h => h) (Or.inl ⟨by rfl, ?_⟩) (by assumption) ?_
                rotate_left
                · (intro w hSw; (try dsimp only at hSw); go_simp; try with_reducible rfl)
                try simp only [Act.put, List.getElem_toArray, List.getElem_cons_succ, List.getElem_cons_zero, List.setIfInBounds_toArray, List.set_cons_zero, List.set_cons_succ]
                refine wpAnyH_ready (rs := [2, 6, 7]) (by kernel_rfl) (by simp) ?_
                refine AllReadyH.cons rfl (fun K hK => ?_) (AllReadyH.cons rfl (fun K hK => ?_) (AllReadyH.cons rfl (fun K hK => ?_) AllReadyH.nil))
                · try simp only [List.getElem_toArray, List.getElem_cons_succ, List.getElem_cons_zero]
                  go_simp
                  go_at_call 11; refine (HA1.out _ _ _ HX.out).mono ?_; intro e q1 hE; obtain rfl := hE.1; obtain ⟨Fz, hX, hMv⟩ := HX.out.app1 hE; have HX := Lib.hid hX; clear hE hX hMv
                  try go_wp2_with fail
                  refine hK.out _ _ (HS.out _ _ _ _ _ HX.out) (fun hHeld => ?_)
                  clear hK K
                  try simp only [Act.put, List.getElem_toArray, List.getElem_cons_succ, List.getElem_cons_zero, List.setIfInBounds_toArray, List.set_cons_zero, List.set_cons_succ]
                  refine wpAnyH_ready (rs := [5, 6, 7]) (by kernel_rfl) (by simp) ?_
                  refine AllReadyH.cons rfl (fun K hK => ?_) (AllReadyH.cons rfl (fun K hK => ?_) (AllReadyH.cons rfl (fun K hK => ?_) AllReadyH.nil))
                  · try simp only [List.getElem_toArray, List.getElem_cons_succ, List.getElem_cons_zero]
                    go_simp
                    go_at_call 11; refine (HA2.out _ _ _ HX.out).mono ?_; intro e q2 hE; obtain rfl := hE.1; obtain ⟨Fz, hX, hMv⟩ := HX.out.app1 hE; have HX := Lib.hid hX; clear hE hX hMv
                    try go_wp2_with fail
                    refine hK.out _ _ (HS.out _ _ _ _ _ HX.out) (fun hHeld => ?_)
                    clear hK K
                    try simp only [Act.put, List.getElem_toArray, List.getElem_cons_succ, List.getElem_cons_zero, List.setIfInBounds_toArray, List.set_cons_zero, List.set_cons_succ]
                    refine wpAnyH_ready (rs := [6, 7]) (by kernel_rfl) (by simp) ?_
                    refine AllReadyH.cons rfl (fun K hK => ?_) (AllReadyH.cons rfl (fun K hK => ?_) AllReadyH.nil)
                    · try simp only [List.getElem_toArray, List.getElem_cons_succ, List.getElem_cons_zero]
                      go_simp
                      refine hK.out _ _ (HS.out _ _ _ _ _ (HX.out.step ((Frm.Turn.refl [] _).alloc (.cells #[.int .i64 0, .int .i64 0] 40)))) (fun hHeld => ?_)
                      clear hK K
                      have hb := HX.out.box
                      have hx := HX.out.step ((Frm.Turn.refl [] _).alloc (.cells #[.int .i64 0, .int .i64 0] 40))
                      clear HX
                      generalize World.alloc q2 (.cells #[.int .i64 0, .int .i64 0] 40) = z6 at hx hb hHeld ⊢
                      have HX := Lib.hid hx
                      have HB6 := Lib.hid hb
                      clear hx hb
                      try simp only [Act.put, List.getElem_toArray, List.getElem_cons_succ, List.getElem_cons_zero, List.setIfInBounds_toArray, List.set_cons_zero, List.set_cons_succ]
                      refine wpAnyH_ready (rs := [7]) (by kernel_rfl) (by simp) ?_
                      refine AllReadyH.cons rfl (fun K hK => ?_) AllReadyH.nil
                      try simp only [List.getElem_toArray, List.getElem_cons_succ, List.getElem_cons_zero]
                      go_simp
                      refine hK.out _ _ (HS.out _ _ _ _ _ (HX.out.step ((Frm.Turn.refl [] _).alloc (.cells #[.int .i64 0, .int .i64 0] 40)))) (fun hHeld => ?_)
                      clear hK K
                      have hb := HX.out.box
                      have HB6' := HB6.out.step ((Frm.Turn.refl [] _).alloc (.cells #[.int .i64 0, .int .i64 0] 40))
                      have neHB7HB6 := Ne.symm (Nat.ne_of_lt HB6.out.lt)
                      have hx := HX.out.step ((Frm.Turn.refl [] _).alloc (.cells #[.int .i64 0, .int .i64 0] 40))
                      clear HX HB6
                      generalize World.alloc z6 (.cells #[.int .i64 0, .int .i64 0] 40) = z7 at hx hb hHeld HB6' ⊢
                      have HX := Lib.hid hx
                      have HB7 := Lib.hid hb
                      have HB6 := Lib.hid HB6'
                      have HNeHB7HB6 := Lib.hid neHB7HB6
                      clear hx hb HB6' neHB7HB6
                      try simp only [Act.put, List.getElem_toArray, List.getElem_cons_succ, List.getElem_cons_zero, List.setIfInBounds_toArray, List.set_cons_zero, List.set_cons_succ]
                      have lz := HB6.out.lt
                      obtain ⟨⟨z0, z1⟩, z2, z3⟩ := blk2 HB6.out.blk
                      refine wpAnyH_ready (rs := [8]) (by kernel_rfl) (by simp) ?_
                      refine AllReadyH.cons rfl (fun K hK => ?_) AllReadyH.nil
                      try simp only [List.getElem_toArray, List.getElem_cons_succ, List.getElem_cons_zero]
                      go_simp
                      refine hK.out _ _ (HS.out _ _ _ _ _ (HX.out.put HB6.out (.int .i64 x1) (.int .i64 y1))) (fun hHeld => ?_)
                      clear hK K z0 z1 z2 z3 lz
                      have hb := HB6.out.put x1 y1
                      have hx := HX.out.put HB6.out (.int .i64 x1) (.int .i64 y1)
                      have HB7' := HB7.out.other HNeHB7HB6.out (.int .i64 x1) (.int .i64 y1)
                      clear HX HB6 HB7
                      generalize World.setCell (World.setCell z7 ⟨q2.heap.size, 0, none⟩ (.int .i64 x1)) ⟨q2.heap.size, 1, none⟩ (.int .i64 y1) = s8 at hx hb hHeld HB7' ⊢
                      have HX := Lib.hid hx
                      have HB6 := Lib.hid hb
                      have HB7 := Lib.hid HB7'
                      clear hx hb HB7'
                      try simp only [Act.put, List.getElem_toArray, List.getElem_cons_succ, List.getElem_cons_zero, List.setIfInBounds_toArray, List.set_cons_zero, List.set_cons_succ]
                      have lz := HB7.out.lt
                      obtain ⟨⟨z0, z1⟩, z2, z3⟩ := blk2 HB7.out.blk
                      refine wpAnyH_ready (rs := [9]) (by kernel_rfl) (by simp) ?_
                      refine AllReadyH.cons rfl (fun K hK => ?_) AllReadyH.nil
                      try simp only [List.getElem_toArray, List.getElem_cons_succ, List.getElem_cons_zero]
                      go_simp
                      refine hK.out _ _ (HS.out _ _ _ _ _ (HX.out.put HB7.out (.int .i64 u1) (.int .i64 v1))) (fun hHeld => ?_)
                      clear hK K z0 z1 z2 z3 lz
                      have hb := HB7.out.put u1 v1
                      have hx := HX.out.put HB7.out (.int .i64 u1) (.int .i64 v1)
                      have HB6' := HB6.out.other (Ne.symm HNeHB7HB6.out) (.int .i64 u1) (.int .i64 v1)
                      clear HX HB7 HB6
                      generalize World.setCell (World.setCell s8 ⟨z6.heap.size, 0, none⟩ (.int .i64 u1)) ⟨z6.heap.size, 1, none⟩ (.int .i64 v1) = s9 at hx hb hHeld HB6' ⊢
                      have HX := Lib.hid hx
                      have HB7 := Lib.hid hb
                      have HB6 := Lib.hid HB6'
                      clear hx hb HB6'
                      try simp only [Act.put, List.getElem_toArray, List.getElem_cons_succ, List.getElem_cons_zero, List.setIfInBounds_toArray, List.set_cons_zero, List.set_cons_succ]
                      refine wpAnyH_done (by kernel_rfl) ?_ _
                      go_wp2_with fail
                      go_meet
                      case rel => exact ⟨_, _, _, _, rfl, rfl, HX.out, HB6.out, HB7.out⟩
                    · try simp only [List.getElem_toArray, List.getElem_cons_succ, List.getElem_cons_zero]
                      go_simp
                      refine hK.out _ _ (HS.out _ _ _ _ _ (HX.out.step ((Frm.Turn.refl [] _).alloc (.cells #[.int .i64 0, .int .i64 0] 40)))) (fun hHeld => ?_)
                      clear hK K
                      have hb := HX.out.box
                      have hx := HX.out.step ((Frm.Turn.refl [] _).alloc (.cells #[.int .i64 0, .int .i64 0] 40))
                      clear HX
                      generalize World.alloc q2 (.cells #[.int .i64 0, .int .i64 0] 40) = z7 at hx hb hHeld ⊢
                      have HX := Lib.hid hx
                      have HB7 := Lib.hid hb
                      clear hx hb
                      try simp only [Act.put, List.getElem_toArray, List.getElem_cons_succ, List.getElem_cons_zero, List.setIfInBounds_toArray, List.set_cons_zero, List.set_cons_succ]
                      refine wpAnyH_ready (rs := [6]) (by kernel_rfl) (by simp) ?_
                      refine AllReadyH.cons rfl (fun K hK => ?_) AllReadyH.nil
                      try simp only [List.getElem_toArray, List.getElem_cons_succ, List.getElem_cons_zero]
                      go_simp
                      refine hK.out _ _ (HS.out _ _ _ _ _ (HX.out.step ((Frm.Turn.refl [] _).alloc (.cells #[.int .i64 0, .int .i64 0] 40)))) (fun hHeld => ?_)
                      clear hK K
                      have hb := HX.out.box
                      have HB7' := HB7.out.step ((Frm.Turn.refl [] _).alloc (.cells #[.int .i64 0, .int .i64 0] 40))
                      have neHB6HB7 := Ne.symm (Nat.ne_of_lt HB7.out.lt)
                      have hx := HX.out.step ((Frm.Turn.refl [] _).alloc (.cells #[.int .i64 0, .int .i64 0] 40))
                      clear HX HB7
                      generalize World.alloc z7 (.cells #[.int .i64 0, .int .i64 0] 40) = z6 at hx hb hHeld HB7' ⊢
                      have HX := Lib.hid hx
                      have HB6 := Lib.hid hb
                      have HB7 := Lib.hid HB7'
                      have HNeHB6HB7 := Lib.hid neHB6HB7
                      clear hx hb HB7' neHB6HB7
                      try simp only [Act.put, List.getElem_toArray, List.getElem_cons_succ, List.getElem_cons_zero, List.setIfInBounds_toArray, List.set_cons_zero, List.set_cons_succ]
                      have lz := HB6.out.lt
                      obtain ⟨⟨z0, z1⟩, z2, z3⟩ := blk2 HB6.out.blk
                      refine wpAnyH_ready (rs := [8]) (by kernel_rfl) (by simp) ?_
                      refine AllReadyH.cons rfl (fun K hK => ?_) AllReadyH.nil
                      try simp only [List.getElem_toArray, List.getElem_cons_succ, List.getElem_cons_zero]
                      go_simp
                      refine hK.out _ _ (HS.out _ _ _ _ _ (HX.out.put HB6.out (.int .i64 x1) (.int .i64 y1))) (fun hHeld => ?_)
                      clear hK K z0 z1 z2 z3 lz
                      have hb := HB6.out.put x1 y1
                      have hx := HX.out.put HB6.out (.int .i64 x1) (.int .i64 y1)
                      have HB7' := HB7.out.other (Ne.symm HNeHB6HB7.out) (.int .i64 x1) (.int .i64 y1)
                      clear HX HB6 HB7
                      generalize World.setCell (World.setCell z6 ⟨z7.heap.size, 0, none⟩ (.int .i64 x1)) ⟨z7.heap.size, 1, none⟩ (.int .i64 y1) = s8 at hx hb hHeld HB7' ⊢
                      have HX := Lib.hid hx
                      have HB6 := Lib.hid hb
                      have HB7 := Lib.hid HB7'
                      clear hx hb HB7'
                      try simp only [Act.put, List.getElem_toArray, List.getElem_cons_succ, List.getElem_cons_zero, List.setIfInBounds_toArray, List.set_cons_zero, List.set_cons_succ]
                      have lz := HB7.out.lt
                      obtain ⟨⟨z0, z1⟩, z2, z3⟩ := blk2 HB7.out.blk
                      refine wpAnyH_ready (rs := [9]) (by kernel_rfl) (by simp) ?_
                      refine AllReadyH.cons rfl (fun K hK => ?_) AllReadyH.nil
                      try simp only [List.getElem_toArray, List.getElem_cons_succ, List.getElem_cons_zero]
                      go_simp
                      refine hK.out _ _ (HS.out _ _ _ _ _ (HX.out.put HB7.out (.int .i64 u1) (.int .i64 v1))) (fun hHeld => ?_)
                      clear hK K z0 z1 z2 z3 lz
                      have hb := HB7.out.put u1 v1
                      have hx := HX.out.put HB7.out (.int .i64 u1) (.int .i64 v1)
                      have HB6' := HB6.out.other HNeHB6HB7.out (.int .i64 u1) (.int .i64 v1)
                      clear HX HB7 HB6
                      generalize World.setCell (World.setCell s8 ⟨q2.heap.size, 0, none⟩ (.int .i64 u1)) ⟨q2.heap.size, 1, none⟩ (.int .i64 v1) = s9 at hx hb hHeld HB6' ⊢
                      have HX := Lib.hid hx
                      have HB7 := Lib.hid hb
                      have HB6 := Lib.hid HB6'
                      clear hx hb HB6'
                      try simp only [Act.put, List.getElem_toArray, List.getElem_cons_succ, List.getElem_cons_zero, List.setIfInBounds_toArray, List.set_cons_zero, List.set_cons_succ]
                      refine wpAnyH_done (by kernel_rfl) ?_ _
                      go_wp2_with fail
                      go_meet
                      case rel => exact ⟨_, _, _, _, rfl, rfl, HX.out, HB6.out, HB7.out⟩
                  · try simp only [List.getElem_toArray, List.getElem_cons_succ, List.getElem_cons_zero]
                    go_simp
                    refine hK.out _ _ (HS.out _ _ _ _ _ (HX.out.step ((Frm.Turn.refl [] _).alloc (.cells #[.int .i64 0, .int .i64 0] 40)))) (fun hHeld => ?_)
                    clear hK K
                    have hb := HX.out.box
                    have hx := HX.out.step ((Frm.Turn.refl [] _).alloc (.cells #[.int .i64 0, .int .i64 0] 40))
                    clear HX
                    generalize World.alloc q1 (.cells #[.int .i64 0, .int .i64 0] 40) = z6 at hx hb hHeld ⊢
                    have HX := Lib.hid hx
                    have HB6 := Lib.hid hb
                    clear hx hb
                    try simp only [Act.put, List.getElem_toArray, List.getElem_cons_succ, List.getElem_cons_zero, List.setIfInBounds_toArray, List.set_cons_zero, List.set_cons_succ]
                    refine wpAnyH_ready (rs := [5, 7]) (by kernel_rfl) (by simp) ?_
                    refine AllReadyH.cons rfl (fun K hK => ?_) (AllReadyH.cons rfl (fun K hK => ?_) AllReadyH.nil)
                    · try simp only [List.getElem_toArray, List.getElem_cons_succ, List.getElem_cons_zero]
                      go_simp
                      go_at_call 11; refine (HA2.out _ _ _ HX.out).mono ?_; intro e q2 hE; obtain rfl := hE.1; obtain ⟨Fz, hX, hMv⟩ := HX.out.app1 hE; have HX := Lib.hid hX; have HB6 := Lib.hid (HB6.out.app1 hMv); clear hE hX hMv
                      try go_wp2_with fail
                      refine hK.out _ _ (HS.out _ _ _ _ _ HX.out) (fun hHeld => ?_)
                      clear hK K
                      try simp only [Act.put, List.getElem_toArray, List.getElem_cons_succ, List.getElem_cons_zero, List.setIfInBounds_toArray, List.set_cons_zero, List.set_cons_succ]
                      refine wpAnyH_ready (rs := [7]) (by kernel_rfl) (by simp) ?_
                      refine AllReadyH.cons rfl (fun K hK => ?_) AllReadyH.nil
                      try simp only [List.getElem_toArray, List.getElem_cons_succ, List.getElem_cons_zero]
                      go_simp
                      refine hK.out _ _ (HS.out _ _ _ _ _ (HX.out.step ((Frm.Turn.refl [] _).alloc (.cells #[.int .i64 0, .int .i64 0] 40)))) (fun hHeld => ?_)
                      clear hK K
                      have hb := HX.out.box
                      have HB6' := HB6.out.step ((Frm.Turn.refl [] _).alloc (.cells #[.int .i64 0, .int .i64 0] 40))
                      have neHB7HB6 := Ne.symm (Nat.ne_of_lt HB6.out.lt)
                      have hx := HX.out.step ((Frm.Turn.refl [] _).alloc (.cells #[.int .i64 0, .int .i64 0] 40))
                      clear HX HB6
                      generalize World.alloc q2 (.cells #[.int .i64 0, .int .i64 0] 40) = z7 at hx hb hHeld HB6' ⊢
                      have HX := Lib.hid hx
                      have HB7 := Lib.hid hb
                      have HB6 := Lib.hid HB6'
                      have HNeHB7HB6 := Lib.hid neHB7HB6
                      clear hx hb HB6' neHB7HB6
                      try simp only [Act.put, List.getElem_toArray, List.getElem_cons_succ, List.getElem_cons_zero, List.setIfInBounds_toArray, List.set_cons_zero, List.set_cons_succ]
                      have lz := HB6.out.lt
                      obtain ⟨⟨z0, z1⟩, z2, z3⟩ := blk2 HB6.out.blk
                      refine wpAnyH_ready (rs := [8]) (by kernel_rfl) (by simp) ?_
                      refine AllReadyH.cons rfl (fun K hK => ?_) AllReadyH.nil
                      try simp only [List.getElem_toArray, List.getElem_cons_succ, List.getElem_cons_zero]
                      go_simp
                      refine hK.out _ _ (HS.out _ _ _ _ _ (HX.out.put HB6.out (.int .i64 x1) (.int .i64 y1))) (fun hHeld => ?_)
                      clear hK K z0 z1 z2 z3 lz
                      have hb := HB6.out.put x1 y1
                      have hx := HX.out.put HB6.out (.int .i64 x1) (.int .i64 y1)
                      have HB7' := HB7.out.other HNeHB7HB6.out (.int .i64 x1) (.int .i64 y1)
                      clear HX HB6 HB7
                      generalize World.setCell (World.setCell z7 ⟨q1.heap.size, 0, none⟩ (.int .i64 x1)) ⟨q1.heap.size, 1, none⟩ (.int .i64 y1) = s8 at hx hb hHeld HB7' ⊢
                      have HX := Lib.hid hx
                      have HB6 := Lib.hid hb
                      have HB7 := Lib.hid HB7'
                      clear hx hb HB7'
                      try simp only [Act.put, List.getElem_toArray, List.getElem_cons_succ, List.getElem_cons_zero, List.setIfInBounds_toArray, List.set_cons_zero, List.set_cons_succ]
                      have lz := HB7.out.lt
                      obtain ⟨⟨z0, z1⟩, z2, z3⟩ := blk2 HB7.out.blk
                      refine wpAnyH_ready (rs := [9]) (by kernel_rfl) (by simp) ?_
                      refine AllReadyH.cons rfl (fun K hK => ?_) AllReadyH.nil
                      try simp only [List.getElem_toArray, List.getElem_cons_succ, List.getElem_cons_zero]
                      go_simp
                      refine hK.out _ _ (HS.out _ _ _ _ _ (HX.out.put HB7.out (.int .i64 u1) (.int .i64 v1))) (fun hHeld => ?_)
                      clear hK K z0 z1 z2 z3 lz
                      have hb := HB7.out.put u1 v1
                      have hx := HX.out.put HB7.out (.int .i64 u1) (.int .i64 v1)
                      have HB6' := HB6.out.other (Ne.symm HNeHB7HB6.out) (.int .i64 u1) (.int .i64 v1)
                      clear HX HB7 HB6
                      generalize World.setCell (World.setCell s8 ⟨q2.heap.size, 0, none⟩ (.int .i64 u1)) ⟨q2.heap.size, 1, none⟩ (.int .i64 v1) = s9 at hx hb hHeld HB6' ⊢
                      have HX := Lib.hid hx
                      have HB7 := Lib.hid hb
                      have HB6 := Lib.hid HB6'
                      clear hx hb HB6'
                      try simp only [Act.put, List.getElem_toArray, List.getElem_cons_succ, List.getElem_cons_zero, List.setIfInBounds_toArray, List.set_cons_zero, List.set_cons_succ]
                      refine wpAnyH_done (by kernel_rfl) ?_ _
                      go_wp2_with fail
                      go_meet
                      case rel => exact ⟨_, _, _, _, rfl, rfl, HX.out, HB6.out, HB7.out⟩
                    · try simp only [List.getElem_toArray, List.getElem_cons_succ, List.getElem_cons_zero]
                      go_simp
                      refine hK.out _ _ (HS.out _ _ _ _ _ (HX.out.step ((Frm.Turn.refl [] _).alloc (.cells #[.int .i64 0, .int .i64 0] 40)))) (fun hHeld => ?_)
                      clear hK K
                      have hb := HX.out.box
                      have HB6' := HB6.out.step ((Frm.Turn.refl [] _).alloc (.cells #[.int .i64 0, .int .i64 0] 40))
                      have neHB7HB6 := Ne.symm (Nat.ne_of_lt HB6.out.lt)
                      have hx := HX.out.step ((Frm.Turn.refl [] _).alloc (.cells #[.int .i64 0, .int .i64 0] 40))
                      clear HX HB6
                      generalize World.alloc z6 (.cells #[.int .i64 0, .int .i64 0] 40) = z7 at hx hb hHeld HB6' ⊢
                      have HX := Lib.hid hx
                      have HB7 := Lib.hid hb
                      have HB6 := Lib.hid HB6'
                      have HNeHB7HB6 := Lib.hid neHB7HB6
                      clear hx hb HB6' neHB7HB6
                      try simp only [Act.put, List.getElem_toArray, List.getElem_cons_succ, List.getElem_cons_zero, List.setIfInBounds_toArray, List.set_cons_zero, List.set_cons_succ]
                      refine wpAnyH_ready (rs := [5]) (by kernel_rfl) (by simp) ?_
                      refine AllReadyH.cons rfl (fun K hK => ?_) AllReadyH.nil
                      try simp only [List.getElem_toArray, List.getElem_cons_succ, List.getElem_cons_zero]
                      go_simp
                      go_at_call 11; refine (HA2.out _ _ _ HX.out).mono ?_; intro e q2 hE; obtain rfl := hE.1; obtain ⟨Fz, hX, hMv⟩ := HX.out.app1 hE; have HX := Lib.hid hX; have HB6 := Lib.hid (HB6.out.app1 hMv); have HB7 := Lib.hid (HB7.out.app1 hMv); clear hE hX hMv
                      try go_wp2_with fail
                      refine hK.out _ _ (HS.out _ _ _ _ _ HX.out) (fun hHeld => ?_)
                      clear hK K
                      try simp only [Act.put, List.getElem_toArray, List.getElem_cons_succ, List.getElem_cons_zero, List.setIfInBounds_toArray, List.set_cons_zero, List.set_cons_succ]
                      have lz := HB6.out.lt
                      obtain ⟨⟨z0, z1⟩, z2, z3⟩ := blk2 HB6.out.blk
                      refine wpAnyH_ready (rs := [8]) (by kernel_rfl) (by simp) ?_
                      refine AllReadyH.cons rfl (fun K hK => ?_) AllReadyH.nil
                      try simp only [List.getElem_toArray, List.getElem_cons_succ, List.getElem_cons_zero]
                      go_simp
                      refine hK.out _ _ (HS.out _ _ _ _ _ (HX.out.put HB6.out (.int .i64 x1) (.int .i64 y1))) (fun hHeld => ?_)
                      clear hK K z0 z1 z2 z3 lz
                      have hb := HB6.out.put x1 y1
                      have hx := HX.out.put HB6.out (.int .i64 x1) (.int .i64 y1)
                      have HB7' := HB7.out.other HNeHB7HB6.out (.int .i64 x1) (.int .i64 y1)
                      clear HX HB6 HB7
                      generalize World.setCell (World.setCell q2 ⟨q1.heap.size, 0, none⟩ (.int .i64 x1)) ⟨q1.heap.size, 1, none⟩ (.int .i64 y1) = s8 at hx hb hHeld HB7' ⊢
                      have HX := Lib.hid hx
                      have HB6 := Lib.hid hb
                      have HB7 := Lib.hid HB7'
                      clear hx hb HB7'
                      try simp only [Act.put, List.getElem_toArray, List.getElem_cons_succ, List.getElem_cons_zero, List.setIfInBounds_toArray, List.set_cons_zero, List.set_cons_succ]
                      have lz := HB7.out.lt
                      obtain ⟨⟨z0, z1⟩, z2, z3⟩ := blk2 HB7.out.blk
                      refine wpAnyH_ready (rs := [9]) (by kernel_rfl) (by simp) ?_
                      refine AllReadyH.cons rfl (fun K hK => ?_) AllReadyH.nil
                      try simp only [List.getElem_toArray, List.getElem_cons_succ, List.getElem_cons_zero]
                      go_simp
                      refine hK.out _ _ (HS.out _ _ _ _ _ (HX.out.put HB7.out (.int .i64 u1) (.int .i64 v1))) (fun hHeld => ?_)
                      clear hK K z0 z1 z2 z3 lz
                      have hb := HB7.out.put u1 v1
                      have hx := HX.out.put HB7.out (.int .i64 u1) (.int .i64 v1)
                      have HB6' := HB6.out.other (Ne.symm HNeHB7HB6.out) (.int .i64 u1) (.int .i64 v1)
                      clear HX HB7 HB6
                      generalize World.setCell (World.setCell s8 ⟨z6.heap.size, 0, none⟩ (.int .i64 u1)) ⟨z6.heap.size, 1, none⟩ (.int .i64 v1) = s9 at hx hb hHeld HB6' ⊢
                      have HX := Lib.hid hx
                      have HB7 := Lib.hid hb
                      have HB6 := Lib.hid HB6'
                      clear hx hb HB6'
                      try simp only [Act.put, List.getElem_toArray, List.getElem_cons_succ, List.getElem_cons_zero, List.setIfInBounds_toArray, List.set_cons_zero, List.set_cons_succ]
                      refine wpAnyH_done (by kernel_rfl) ?_ _
                      go_wp2_with fail
                      go_meet
                      case rel => exact ⟨_, _, _, _, rfl, rfl, HX.out, HB6.out, HB7.out⟩
                  · try simp only [List.getElem_toArray, List.getElem_cons_succ, List.getElem_cons_zero]
                    go_simp
                    refine hK.out _ _ (HS.out _ _ _ _ _ (HX.out.step ((Frm.Turn.refl [] _).alloc (.cells #[.int .i64 0, .int .i64 0] 40)))) (fun hHeld => ?_)
                    clear hK K
                    have hb := HX.out.box
                    have hx := HX.out.step ((Frm.Turn.refl [] _).alloc (.cells #[.int .i64 0, .int .i64 0] 40))
                    clear HX
                    generalize World.alloc q1 (.cells #[.int .i64 0, .int .i64 0] 40) = z7 at hx hb hHeld ⊢
                    have HX := Lib.hid hx
                    have HB7 := Lib.hid hb
                    clear hx hb
                    try simp only [Act.put, List.getElem_toArray, List.getElem_cons_succ, List.getElem_cons_zero, List.setIfInBounds_toArray, List.set_cons_zero, List.set_cons_succ]
                    refine wpAnyH_ready (rs := [5, 6]) (by kernel_rfl) (by simp) ?_
                    refine AllReadyH.cons rfl (fun K hK => ?_) (AllReadyH.cons rfl (fun K hK => ?_) AllReadyH.nil)
                    · try simp only [List.getElem_toArray, List.getElem_cons_succ, List.getElem_cons_zero]
                      go_simp
                      go_at_call 11; refine (HA2.out _ _ _ HX.out).mono ?_; intro e q2 hE; obtain rfl := hE.1; obtain ⟨Fz, hX, hMv⟩ := HX.out.app1 hE; have HX := Lib.hid hX; have HB7 := Lib.hid (HB7.out.app1 hMv); clear hE hX hMv
                      try go_wp2_with fail
                      refine hK.out _ _ (HS.out _ _ _ _ _ HX.out) (fun hHeld => ?_)
                      clear hK K
                      try simp only [Act.put, List.getElem_toArray, List.getElem_cons_succ, List.getElem_cons_zero, List.setIfInBounds_toArray, List.set_cons_zero, List.set_cons_succ]
                      refine wpAnyH_ready (rs := [6]) (by kernel_rfl) (by simp) ?_
                      refine AllReadyH.cons rfl (fun K hK => ?_) AllReadyH.nil
                      try simp only [List.getElem_toArray, List.getElem_cons_succ, List.getElem_cons_zero]
                      go_simp
                      refine hK.out _ _ (HS.out _ _ _ _ _ (HX.out.step ((Frm.Turn.refl [] _).alloc (.cells #[.int .i64 0, .int .i64 0] 40)))) (fun hHeld => ?_)
                      clear hK K
                      have hb := HX.out.box
                      have HB7' := HB7.out.step ((Frm.Turn.refl [] _).alloc (.cells #[.int .i64 0, .int .i64 0] 40))
                      have neHB6HB7 := Ne.symm (Nat.ne_of_lt HB7.out.lt)
                      have hx := HX.out.step ((Frm.Turn.refl [] _).alloc (.cells #[.int .i64 0, .int .i64 0] 40))
                      clear HX HB7
                      generalize World.alloc q2 (.cells #[.int .i64 0, .int .i64 0] 40) = z6 at hx hb hHeld HB7' ⊢
                      have HX := Lib.hid hx
                      have HB6 := Lib.hid hb
                      have HB7 := Lib.hid HB7'
                      have HNeHB6HB7 := Lib.hid neHB6HB7
                      clear hx hb HB7' neHB6HB7
                      try simp only [Act.put, List.getElem_toArray, List.getElem_cons_succ, List.getElem_cons_zero, List.setIfInBounds_toArray, List.set_cons_zero, List.set_cons_succ]
                      have lz := HB6.out.lt
                      obtain ⟨⟨z0, z1⟩, z2, z3⟩ := blk2 HB6.out.blk
                      refine wpAnyH_ready (rs := [8]) (by kernel_rfl) (by simp) ?_
                      refine AllReadyH.cons rfl (fun K hK => ?_) AllReadyH.nil
                      try simp only [List.getElem_toArray, List.getElem_cons_succ, List.getElem_cons_zero]
                      go_simp
                      refine hK.out _ _ (HS.out _ _ _ _ _ (HX.out.put HB6.out (.int .i64 x1) (.int .i64 y1))) (fun hHeld => ?_)
                      clear hK K z0 z1 z2 z3 lz
                      have hb := HB6.out.put x1 y1
                      have hx := HX.out.put HB6.out (.int .i64 x1) (.int .i64 y1)
                      have HB7' := HB7.out.other (Ne.symm HNeHB6HB7.out) (.int .i64 x1) (.int .i64 y1)
                      clear HX HB6 HB7
                      generalize World.setCell (World.setCell z6 ⟨q2.heap.size, 0, none⟩ (.int .i64 x1)) ⟨q2.heap.size, 1, none⟩ (.int .i64 y1) = s8 at hx hb hHeld HB7' ⊢
                      have HX := Lib.hid hx
                      have HB6 := Lib.hid hb
                      have HB7 := Lib.hid HB7'
                      clear hx hb HB7'
                      try simp only [Act.put, List.getElem_toArray, List.getElem_cons_succ, List.getElem_cons_zero, List.setIfInBounds_toArray, List.set_cons_zero, List.set_cons_succ]
                      have lz := HB7.out.lt
                      obtain ⟨⟨z0, z1⟩, z2, z3⟩ := blk2 HB7.out.blk
                      refine wpAnyH_ready (rs := [9]) (by kernel_rfl) (by simp) ?_
                      refine AllReadyH.cons rfl (fun K hK => ?_) AllReadyH.nil
                      try simp only [List.getElem_toArray, List.getElem_cons_succ, List.getElem_cons_zero]
                      go_simp
                      refine hK.out _ _ (HS.out _ _ _ _ _ (HX.out.put HB7.out (.int .i64 u1) (.int .i64 v1))) (fun hHeld => ?_)
                      clear hK K z0 z1 z2 z3 lz
                      have hb := HB7.out.put u1 v1
                      have hx := HX.out.put HB7.out (.int .i64 u1) (.int .i64 v1)
                      have HB6' := HB6.out.other HNeHB6HB7.out (.int .i64 u1) (.int .i64 v1)
                      clear HX HB7 HB6
                      generalize World.setCell (World.setCell s8 ⟨q1.heap.size, 0, none⟩ (.int .i64 u1)) ⟨q1.heap.size, 1, none⟩ (.int .i64 v1) = s9 at hx hb hHeld HB6' ⊢
                      have HX := Lib.hid hx
                      have HB7 := Lib.hid hb
                      have HB6 := Lib.hid HB6'
                      clear hx hb HB6'
                      try simp only [Act.put, List.getElem_toArray, List.getElem_cons_succ, List.getElem_cons_zero, List.setIfInBounds_toArray, List.set_cons_zero, List.set_cons_succ]
                      refine wpAnyH_done (by kernel_rfl) ?_ _
                      go_wp2_with fail
                      go_meet
                      case rel => exact ⟨_, _, _, _, rfl, rfl, HX.out, HB6.out, HB7.out⟩
                    · try simp only [List.getElem_toArray, List.getElem_cons_succ, List.getElem_cons_zero]
                      go_simp
                      refine hK.out _ _ (HS.out _ _ _ _ _ (HX.out.step ((Frm.Turn.refl [] _).alloc (.cells #[.int .i64 0, .int .i64 0] 40)))) (fun hHeld => ?_)
                      clear hK K
                      have hb := HX.out.box
                      have HB7' := HB7.out.step ((Frm.Turn.refl [] _).alloc (.cells #[.int .i64 0, .int .i64 0] 40))
                      have neHB6HB7 := Ne.symm (Nat.ne_of_lt HB7.out.lt)
                      have hx := HX.out.step ((Frm.Turn.refl [] _).alloc (.cells #[.int .i64 0, .int .i64 0] 40))
                      clear HX HB7
                      generalize World.alloc z7 (.cells #[.int .i64 0, .int .i64 0] 40) = z6 at hx hb hHeld HB7' ⊢
                      have HX := Lib.hid hx
                      have HB6 := Lib.hid hb
                      have HB7 := Lib.hid HB7'
                      have HNeHB6HB7 := Lib.hid neHB6HB7
                      clear hx hb HB7' neHB6HB7
                      try simp only [Act.put, List.getElem_toArray, List.getElem_cons_succ, List.getElem_cons_zero, List.setIfInBounds_toArray, List.set_cons_zero, List.set_cons_succ]
                      refine wpAnyH_ready (rs := [5]) (by kernel_rfl) (by simp) ?_
                      refine AllReadyH.cons rfl (fun K hK => ?_) AllReadyH.nil
                      try simp only [List.getElem_toArray, List.getElem_cons_succ, List.getElem_cons_zero]
                      go_simp
                      go_at_call 11; refine (HA2.out _ _ _ HX.out).mono ?_; intro e q2 hE; obtain rfl := hE.1; obtain ⟨Fz, hX, hMv⟩ := HX.out.app1 hE; have HX := Lib.hid hX; have HB7 := Lib.hid (HB7.out.app1 hMv); have HB6 := Lib.hid (HB6.out.app1 hMv); clear hE hX hMv
                      try go_wp2_with fail
                      refine hK.out _ _ (HS.out _ _ _ _ _ HX.out) (fun hHeld => ?_)
                      clear hK K
                      try simp only [Act.put, List.getElem_toArray, List.getElem_cons_succ, List.getElem_cons_zero, List.setIfInBounds_toArray, List.set_cons_zero, List.set_cons_succ]
                      have lz := HB6.out.lt
                      obtain ⟨⟨z0, z1⟩, z2, z3⟩ := blk2 HB6.out.blk
                      refine wpAnyH_ready (rs := [8]) (by kernel_rfl) (by simp) ?_
                      refine AllReadyH.cons rfl (fun K hK => ?_) AllReadyH.nil
                      try simp only [List.getElem_toArray, List.getElem_cons_succ, List.getElem_cons_zero]
                      go_simp
                      refine hK.out _ _ (HS.out _ _ _ _ _ (HX.out.put HB6.out (.int .i64 x1) (.int .i64 y1))) (fun hHeld => ?_)
                      clear hK K z0 z1 z2 z3 lz
                      have hb := HB6.out.put x1 y1
                      have hx := HX.out.put HB6.out (.int .i64 x1) (.int .i64 y1)
                      have HB7' := HB7.out.other (Ne.symm HNeHB6HB7.out) (.int .i64 x1) (.int .i64 y1)
                      clear HX HB6 HB7
                      generalize World.setCell (World.setCell q2 ⟨z7.heap.size, 0, none⟩ (.int .i64 x1)) ⟨z7.heap.size, 1, none⟩ (.int .i64 y1) = s8 at hx hb hHeld HB7' ⊢
                      have HX := Lib.hid hx
                      have HB6 := Lib.hid hb
                      have HB7 := Lib.hid HB7'
                      clear hx hb HB7'
                      try simp only [Act.put, List.getElem_toArray, List.getElem_cons_succ, List.getElem_cons_zero, List.setIfInBounds_toArray, List.set_cons_zero, List.set_cons_succ]
                      have lz := HB7.out.lt
                      obtain ⟨⟨z0, z1⟩, z2, z3⟩ := blk2 HB7.out.blk
                      refine wpAnyH_ready (rs := [9]) (by kernel_rfl) (by simp) ?_
                      refine AllReadyH.cons rfl (fun K hK => ?_) AllReadyH.nil
                      try simp only [List.getElem_toArray, List.getElem_cons_succ, List.getElem_cons_zero]
                      go_simp
                      refine hK.out _ _ (HS.out _ _ _ _ _ (HX.out.put HB7.out (.int .i64 u1) (.int .i64 v1))) (fun hHeld => ?_)
                      clear hK K z0 z1 z2 z3 lz
                      have hb := HB7.out.put u1 v1
                      have hx := HX.out.put HB7.out (.int .i64 u1) (.int .i64 v1)
                      have HB6' := HB6.out.other HNeHB6HB7.out (.int .i64 u1) (.int .i64 v1)
                      clear HX HB7 HB6
                      generalize World.setCell (World.setCell s8 ⟨q1.heap.size, 0, none⟩ (.int .i64 u1)) ⟨q1.heap.size, 1, none⟩ (.int .i64 v1) = s9 at hx hb hHeld HB6' ⊢
                      have HX := Lib.hid hx
                      have HB7 := Lib.hid hb
                      have HB6 := Lib.hid HB6'
                      clear hx hb HB6'
                      try simp only [Act.put, List.getElem_toArray, List.getElem_cons_succ, List.getElem_cons_zero, List.setIfInBounds_toArray, List.set_cons_zero, List.set_cons_succ]
                      refine wpAnyH_done (by kernel_rfl) ?_ _
                      go_wp2_with fail
                      go_meet
                      case rel => exact ⟨_, _, _, _, rfl, rfl, HX.out, HB6.out, HB7.out⟩
                · try simp only [List.getElem_toArray, List.getElem_cons_succ, List.getElem_cons_zero]
                  go_simp
                  refine hK.out _ _ (HS.out _ _ _ _ _ (HX.out.step ((Frm.Turn.refl [] _).alloc (.cells #[.int .i64 0, .int .i64 0] 40)))) (fun hHeld => ?_)
                  clear hK K
                  have hb := HX.out.box
                  have hx := HX.out.step ((Frm.Turn.refl [] _).alloc (.cells #[.int .i64 0, .int .i64 0] 40))
                  clear HX
                  generalize World.alloc wd (.cells #[.int .i64 0, .int .i64 0] 40) = z6 at hx hb hHeld ⊢
                  have HX := Lib.hid hx
                  have HB6 := Lib.hid hb
                  clear hx hb
                  try simp only [Act.put, List.getElem_toArray, List.getElem_cons_succ, List.getElem_cons_zero, List.setIfInBounds_toArray, List.set_cons_zero, List.set_cons_succ]
                  refine wpAnyH_ready (rs := [2, 7]) (by kernel_rfl) (by simp) ?_
                  refine AllReadyH.cons rfl (fun K hK => ?_) (AllReadyH.cons rfl (fun K hK => ?_) AllReadyH.nil)
                  · try simp only [List.getElem_toArray, List.getElem_cons_succ, List.getElem_cons_zero]
                    go_simp
                    go_at_call 11; refine (HA1.out _ _ _ HX.out).mono ?_; intro e q1 hE; obtain rfl := hE.1; obtain ⟨Fz, hX, hMv⟩ := HX.out.app1 hE; have HX := Lib.hid hX; have HB6 := Lib.hid (HB6.out.app1 hMv); clear hE hX hMv
                    try go_wp2_with fail
                    refine hK.out _ _ (HS.out _ _ _ _ _ HX.out) (fun hHeld => ?_)
                    clear hK K
                    try simp only [Act.put, List.getElem_toArray, List.getElem_cons_succ, List.getElem_cons_zero, List.setIfInBounds_toArray, List.set_cons_zero, List.set_cons_succ]
                    refine wpAnyH_ready (rs := [5, 7]) (by kernel_rfl) (by simp) ?_
                    refine AllReadyH.cons rfl (fun K hK => ?_) (AllReadyH.cons rfl (fun K hK => ?_) AllReadyH.nil)
                    · try simp only [List.getElem_toArray, List.getElem_cons_succ, List.getElem_cons_zero]
                      go_simp
                      go_at_call 11; refine (HA2.out _ _ _ HX.out).mono ?_; intro e q2 hE; obtain rfl := hE.1; obtain ⟨Fz, hX, hMv⟩ := HX.out.app1 hE; have HX := Lib.hid hX; have HB6 := Lib.hid (HB6.out.app1 hMv); clear hE hX hMv
                      try go_wp2_with fail
                      refine hK.out _ _ (HS.out _ _ _ _ _ HX.out) (fun hHeld => ?_)
                      clear hK K
                      try simp only [Act.put, List.getElem_toArray, List.getElem_cons_succ, List.getElem_cons_zero, List.setIfInBounds_toArray, List.set_cons_zero, List.set_cons_succ]
                      refine wpAnyH_ready (rs := [7]) (by kernel_rfl) (by simp) ?_
                      refine AllReadyH.cons rfl (fun K hK => ?_) AllReadyH.nil
                      try simp only [List.getElem_toArray, List.getElem_cons_succ, List.getElem_cons_zero]
                      go_simp
                      refine hK.out _ _ (HS.out _ _ _ _ _ (HX.out.step ((Frm.Turn.refl [] _).alloc (.cells #[.int .i64 0, .int .i64 0] 40)))) (fun hHeld => ?_)
                      clear hK K
                      have hb := HX.out.box
                      have HB6' := HB6.out.step ((Frm.Turn.refl [] _).alloc (.cells #[.int .i64 0, .int .i64 0] 40))
                      have neHB7HB6 := Ne.symm (Nat.ne_of_lt HB6.out.lt)
                      have hx := HX.out.step ((Frm.Turn.refl [] _).alloc (.cells #[.int .i64 0, .int .i64 0] 40))
                      clear HX HB6
                      generalize World.alloc q2 (.cells #[.int .i64 0, .int .i64 0] 40) = z7 at hx hb hHeld HB6' ⊢
                      have HX := Lib.hid hx
                      have HB7 := Lib.hid hb
                      have HB6 := Lib.hid HB6'
                      have HNeHB7HB6 := Lib.hid neHB7HB6
                      clear hx hb HB6' neHB7HB6
                      try simp only [Act.put, List.getElem_toArray, List.getElem_cons_succ, List.getElem_cons_zero, List.setIfInBounds_toArray, List.set_cons_zero, List.set_cons_succ]
                      have lz := HB6.out.lt
                      obtain ⟨⟨z0, z1⟩, z2, z3⟩ := blk2 HB6.out.blk
                      refine wpAnyH_ready (rs := [8]) (by kernel_rfl) (by simp) ?_
                      refine AllReadyH.cons rfl (fun K hK => ?_) AllReadyH.nil
                      try simp only [List.getElem_toArray, List.getElem_cons_succ, List.getElem_cons_zero]
                      go_simp
                      refine hK.out _ _ (HS.out _ _ _ _ _ (HX.out.put HB6.out (.int .i64 x1) (.int .i64 y1))) (fun hHeld => ?_)
                      clear hK K z0 z1 z2 z3 lz
                      have hb := HB6.out.put x1 y1
                      have hx := HX.out.put HB6.out (.int .i64 x1) (.int .i64 y1)
                      have HB7' := HB7.out.other HNeHB7HB6.out (.int .i64 x1) (.int .i64 y1)
                      clear HX HB6 HB7
                      generalize World.setCell (World.setCell z7 ⟨wd.heap.size, 0, none⟩ (.int .i64 x1)) ⟨wd.heap.size, 1, none⟩ (.int .i64 y1) = s8 at hx hb hHeld HB7' ⊢
                      have HX := Lib.hid hx
                      have HB6 := Lib.hid hb
                      have HB7 := Lib.hid HB7'
                      clear hx hb HB7'
                      try simp only [Act.put, List.getElem_toArray, List.getElem_cons_succ, List.getElem_cons_zero, List.setIfInBounds_toArray, List.set_cons_zero, List.set_cons_succ]
                      have lz := HB7.out.lt
                      obtain ⟨⟨z0, z1⟩, z2, z3⟩ := blk2 HB7.out.blk
                      refine wpAnyH_ready (rs := [9]) (by kernel_rfl) (by simp) ?_
                      refine AllReadyH.cons rfl (fun K hK => ?_) AllReadyH.nil
                      try simp only [List.getElem_toArray, List.getElem_cons_succ, List.getElem_cons_zero]
                      go_simp
                      refine hK.out _ _ (HS.out _ _ _ _ _ (HX.out.put HB7.out (.int .i64 u1) (.int .i64 v1))) (fun hHeld => ?_)
                      clear hK K z0 z1 z2 z3 lz
                      have hb := HB7.out.put u1 v1
                      have hx := HX.out.put HB7.out (.int .i64 u1) (.int .i64 v1)
                      have HB6' := HB6.out.other (Ne.symm HNeHB7HB6.out) (.int .i64 u1) (.int .i64 v1)
                      clear HX HB7 HB6
                      generalize World.setCell (World.setCell s8 ⟨q2.heap.size, 0, none⟩ (.int .i64 u1)) ⟨q2.heap.size, 1, none⟩ (.int .i64 v1) = s9 at hx hb hHeld HB6' ⊢
                      have HX := Lib.hid hx
                      have HB7 := Lib.hid hb
                      have HB6 := Lib.hid HB6'
                      clear hx hb HB6'
                      try simp only [Act.put, List.getElem_toArray, List.getElem_cons_succ, List.getElem_cons_zero, List.setIfInBounds_toArray, List.set_cons_zero, List.set_cons_succ]
                      refine wpAnyH_done (by kernel_rfl) ?_ _
                      go_wp2_with fail
                      go_meet
                      case rel => exact ⟨_, _, _, _, rfl, rfl, HX.out, HB6.out, HB7.out⟩
                    · try simp only [List.getElem_toArray, List.getElem_cons_succ, List.getElem_cons_zero]
                      go_simp
                      refine hK.out _ _ (HS.out _ _ _ _ _ (HX.out.step ((Frm.Turn.refl [] _).alloc (.cells #[.int .i64 0, .int .i64 0] 40)))) (fun hHeld => ?_)
                      clear hK K
                      have hb := HX.out.box
                      have HB6' := HB6.out.step ((Frm.Turn.refl [] _).alloc (.cells #[.int .i64 0, .int .i64 0] 40))
                      have neHB7HB6 := Ne.symm (Nat.ne_of_lt HB6.out.lt)
                      have hx := HX.out.step ((Frm.Turn.refl [] _).alloc (.cells #[.int .i64 0, .int .i64 0] 40))
                      clear HX HB6
                      generalize World.alloc q1 (.cells #[.int .i64 0, .int .i64 0] 40) = z7 at hx hb hHeld HB6' ⊢
                      have HX := Lib.hid hx
                      have HB7 := Lib.hid hb
                      have HB6 := Lib.hid HB6'
                      have HNeHB7HB6 := Lib.hid neHB7HB6
                      clear hx hb HB6' neHB7HB6
                      try simp only [Act.put, List.getElem_toArray, List.getElem_cons_succ, List.getElem_cons_zero, List.setIfInBounds_toArray, List.set_cons_zero, List.set_cons_succ]
                      refine wpAnyH_ready (rs := [5]) (by kernel_rfl) (by simp) ?_
                      refine AllReadyH.cons rfl (fun K hK => ?_) AllReadyH.nil
                      try simp only [List.getElem_toArray, List.getElem_cons_succ, List.getElem_cons_zero]
                      go_simp
                      go_at_call 11; refine (HA2.out _ _ _ HX.out).mono ?_; intro e q2 hE; obtain rfl := hE.1; obtain ⟨Fz, hX, hMv⟩ := HX.out.app1 hE; have HX := Lib.hid hX; have HB6 := Lib.hid (HB6.out.app1 hMv); have HB7 := Lib.hid (HB7.out.app1 hMv); clear hE hX hMv
                      try go_wp2_with fail
                      refine hK.out _ _ (HS.out _ _ _ _ _ HX.out) (fun hHeld => ?_)
                      clear hK K
                      try simp only [Act.put, List.getElem_toArray, List.getElem_cons_succ, List.getElem_cons_zero, List.setIfInBounds_toArray, List.set_cons_zero, List.set_cons_succ]
                      have lz := HB6.out.lt
                      obtain ⟨⟨z0, z1⟩, z2, z3⟩ := blk2 HB6.out.blk
                      refine wpAnyH_ready (rs := [8]) (by kernel_rfl) (by simp) ?_
                      refine AllReadyH.cons rfl (fun K hK => ?_) AllReadyH.nil
                      try simp only [List.getElem_toArray, List.getElem_cons_succ, List.getElem_cons_zero]
                      go_simp
                      refine hK.out _ _ (HS.out _ _ _ _ _ (HX.out.put HB6.out (.int .i64 x1) (.int .i64 y1))) (fun hHeld => ?_)
                      clear hK K z0 z1 z2 z3 lz
                      have hb := HB6.out.put x1 y1
                      have hx := HX.out.put HB6.out (.int .i64 x1) (.int .i64 y1)
                      have HB7' := HB7.out.other HNeHB7HB6.out (.int .i64 x1) (.int .i64 y1)
                      clear HX HB6 HB7
                      generalize World.setCell (World.setCell q2 ⟨wd.heap.size, 0, none⟩ (.int .i64 x1)) ⟨wd.heap.size, 1, none⟩ (.int .i64 y1) = s8 at hx hb hHeld HB7' ⊢
                      have HX := Lib.hid hx
                      have HB6 := Lib.hid hb
                      have HB7 := Lib.hid HB7'
                      clear hx hb HB7'
                      try simp only [Act.put, List.getElem_toArray, List.getElem_cons_succ, List.getElem_cons_zero, List.setIfInBounds_toArray, List.set_cons_zero, List.set_cons_succ]
                      have lz := HB7.out.lt
                      obtain ⟨⟨z0, z1⟩, z2, z3⟩ := blk2 HB7.out.blk
                      refine wpAnyH_ready (rs := [9]) (by kernel_rfl) (by simp) ?_
                      refine AllReadyH.cons rfl (fun K hK => ?_) AllReadyH.nil
                      try simp only [List.getElem_toArray, List.getElem_cons_succ, List.getElem_cons_zero]
                      go_simp
                      refine hK.out _ _ (HS.out _ _ _ _ _ (HX.out.put HB7.out (.int .i64 u1) (.int .i64 v1))) (fun hHeld => ?_)
                      clear hK K z0 z1 z2 z3 lz
                      have hb := HB7.out.put u1 v1
                      have hx := HX.out.put HB7.out (.int .i64 u1) (.int .i64 v1)
                      have HB6' := HB6.out.other (Ne.symm HNeHB7HB6.out) (.int .i64 u1) (.int .i64 v1)
                      clear HX HB7 HB6
                      generalize World.setCell (World.setCell s8 ⟨q1.heap.size, 0, none⟩ (.int .i64 u1)) ⟨q1.heap.size, 1, none⟩ (.int .i64 v1) = s9 at hx hb hHeld HB6' ⊢
                      have HX := Lib.hid hx
                      have HB7 := Lib.hid hb
                      have HB6 := Lib.hid HB6'
                      clear hx hb HB6'
                      try simp only [Act.put, List.getElem_toArray, List.getElem_cons_succ, List.getElem_cons_zero, List.setIfInBounds_toArray, List.set_cons_zero, List.set_cons_succ]
                      refine wpAnyH_done (by kernel_rfl) ?_ _
                      go_wp2_with fail
                      go_meet
                      case rel => exact ⟨_, _, _, _, rfl, rfl, HX.out, HB6.out, HB7.out⟩
                  · try simp only [List.getElem_toArray, List.getElem_cons_succ, List.getElem_cons_zero]
                    go_simp
                    refine hK.out _ _ (HS.out _ _ _ _ _ (HX.out.step ((Frm.Turn.refl [] _).alloc (.cells #[.int .i64 0, .int .i64 0] 40)))) (fun hHeld => ?_)
                    clear hK K
                    have hb := HX.out.box
                    have HB6' := HB6.out.step ((Frm.Turn.refl [] _).alloc (.cells #[.int .i64 0, .int .i64 0] 40))
                    have neHB7HB6 := Ne.symm (Nat.ne_of_lt HB6.out.lt)
                    have hx := HX.out.step ((Frm.Turn.refl [] _).alloc (.cells #[.int .i64 0, .int .i64 0] 40))
                    clear HX HB6
                    generalize World.alloc z6 (.cells #[.int .i64 0, .int .i64 0] 40) = z7 at hx hb hHeld HB6' ⊢
                    have HX := Lib.hid hx
                    have HB7 := Lib.hid hb
                    have HB6 := Lib.hid HB6'
                    have HNeHB7HB6 := Lib.hid neHB7HB6
                    clear hx hb HB6' neHB7HB6
                    try simp only [Act.put, List.getElem_toArray, List.getElem_cons_succ, List.getElem_cons_zero, List.setIfInBounds_toArray, List.set_cons_zero, List.set_cons_succ]
                    refine wpAnyH_ready (rs := [2]) (by kernel_rfl) (by simp) ?_
                    refine AllReadyH.cons rfl (fun K hK => ?_) AllReadyH.nil
                    try simp only [List.getElem_toArray, List.getElem_cons_succ, List.getElem_cons_zero]
                    go_simp
                    go_at_call 11; refine (HA1.out _ _ _ HX.out).mono ?_; intro e q1 hE; obtain rfl := hE.1; obtain ⟨Fz, hX, hMv⟩ := HX.out.app1 hE; have HX := Lib.hid hX; have HB6 := Lib.hid (HB6.out.app1 hMv); have HB7 := Lib.hid (HB7.out.app1 hMv); clear hE hX hMv
                    try go_wp2_with fail
                    refine hK.out _ _ (HS.out _ _ _ _ _ HX.out) (fun hHeld => ?_)
                    clear hK K
                    try simp only [Act.put, List.getElem_toArray, List.getElem_cons_succ, List.getElem_cons_zero, List.setIfInBounds_toArray, List.set_cons_zero, List.set_cons_succ]
                    refine wpAnyH_ready (rs := [5]) (by kernel_rfl) (by simp) ?_
                    refine AllReadyH.cons rfl (fun K hK => ?_) AllReadyH.nil
                    try simp only [List.getElem_toArray, List.getElem_cons_succ, List.getElem_cons_zero]
                    go_simp
                    go_at_call 11; refine (HA2.out _ _ _ HX.out).mono ?_; intro e q2 hE; obtain rfl := hE.1; obtain ⟨Fz, hX, hMv⟩ := HX.out.app1 hE; have HX := Lib.hid hX; have HB6 := Lib.hid (HB6.out.app1 hMv); have HB7 := Lib.hid (HB7.out.app1 hMv); clear hE hX hMv
                    try go_wp2_with fail
                    refine hK.out _ _ (HS.out _ _ _ _ _ HX.out) (fun hHeld => ?_)
                    clear hK K
                    try simp only [Act.put, List.getElem_toArray, List.getElem_cons_succ, List.getElem_cons_zero, List.setIfInBounds_toArray, List.set_cons_zero, List.set_cons_succ]
                    have lz := HB6.out.lt
                    obtain ⟨⟨z0, z1⟩, z2, z3⟩ := blk2 HB6.out.blk
                    refine wpAnyH_ready (rs := [8]) (by kernel_rfl) (by simp) ?_
                    refine AllReadyH.cons rfl (fun K hK => ?_) AllReadyH.nil
                    try simp only [List.getElem_toArray, List.getElem_cons_succ, List.getElem_cons_zero]
                    go_simp
                    refine hK.out _ _ (HS.out _ _ _ _ _ (HX.out.put HB6.out (.int .i64 x1) (.int .i64 y1))) (fun hHeld => ?_)
                    clear hK K z0 z1 z2 z3 lz
                    have hb := HB6.out.put x1 y1
                    have hx := HX.out.put HB6.out (.int .i64 x1) (.int .i64 y1)
                    have HB7' := HB7.out.other HNeHB7HB6.out (.int .i64 x1) (.int .i64 y1)
                    clear HX HB6 HB7
                    generalize World.setCell (World.setCell q2 ⟨wd.heap.size, 0, none⟩ (.int .i64 x1)) ⟨wd.heap.size, 1, none⟩ (.int .i64 y1) = s8 at hx hb hHeld HB7' ⊢
                    have HX := Lib.hid hx
                    have HB6 := Lib.hid hb
                    have HB7 := Lib.hid HB7'
                    clear hx hb HB7'
                    try simp only [Act.put, List.getElem_toArray, List.getElem_cons_succ, List.getElem_cons_zero, List.setIfInBounds_toArray, List.set_cons_zero, List.set_cons_succ]
                    have lz := HB7.out.lt
                    obtain ⟨⟨z0, z1⟩, z2, z3⟩ := blk2 HB7.out.blk
                    refine wpAnyH_ready (rs := [9]) (by kernel_rfl) (by simp) ?_
                    refine AllReadyH.cons rfl (fun K hK => ?_) AllReadyH.nil
                    try simp only [List.getElem_toArray, List.getElem_cons_succ, List.getElem_cons_zero]
                    go_simp
                    refine hK.out _ _ (HS.out _ _ _ _ _ (HX.out.put HB7.out (.int .i64 u1) (.int .i64 v1))) (fun hHeld => ?_)
                    clear hK K z0 z1 z2 z3 lz
                    have hb := HB7.out.put u1 v1
                    have hx := HX.out.put HB7.out (.int .i64 u1) (.int .i64 v1)
                    have HB6' := HB6.out.other (Ne.symm HNeHB7HB6.out) (.int .i64 u1) (.int .i64 v1)
                    clear HX HB7 HB6
                    generalize World.setCell (World.setCell s8 ⟨z6.heap.size, 0, none⟩ (.int .i64 u1)) ⟨z6.heap.size, 1, none⟩ (.int .i64 v1) = s9 at hx hb hHeld HB6' ⊢
                    have HX := Lib.hid hx
                    have HB7 := Lib.hid hb
                    have HB6 := Lib.hid HB6'
                    clear hx hb HB6'
                    try simp only [Act.put, List.getElem_toArray, List.getElem_cons_succ, List.getElem_cons_zero, List.setIfInBounds_toArray, List.set_cons_zero, List.set_cons_succ]
                    refine wpAnyH_done (by kernel_rfl) ?_ _
                    go_wp2_with fail
                    go_meet
                    case rel => exact ⟨_, _, _, _, rfl, rfl, HX.out, HB6.out, HB7.out⟩
                · try simp only [List.getElem_toArray, List.getElem_cons_succ, List.getElem_cons_zero]
                  go_simp
                  refine hK.out _ _ (HS.out _ _ _ _ _ (HX.out.step ((Frm.Turn.refl [] _).alloc (.cells #[.int .i64 0, .int .i64 0] 40)))) (fun hHeld => ?_)
                  clear hK K
                  have hb := HX.out.box
                  have hx := HX.out.step ((Frm.Turn.refl [] _).alloc (.cells #[.int .i64 0, .int .i64 0] 40))
                  clear HX
                  generalize World.alloc wd (.cells #[.int .i64 0, .int .i64 0] 40) = z7 at hx hb hHeld ⊢
                  have HX := Lib.hid hx
                  have HB7 := Lib.hid hb
                  clear hx hb
                  try simp only [Act.put, List.getElem_toArray, List.getElem_cons_succ, List.getElem_cons_zero, List.setIfInBounds_toArray, List.set_cons_zero, List.set_cons_succ]
                  refine wpAnyH_ready (rs := [2, 6]) (by kernel_rfl) (by simp) ?_
                  refine AllReadyH.cons rfl (fun K hK => ?_) (AllReadyH.cons rfl (fun K hK => ?_) AllReadyH.nil)
                  · try simp only [List.getElem_toArray, List.getElem_cons_succ, List.getElem_cons_zero]
                    go_simp
                    go_at_call 11; refine (HA1.out _ _ _ HX.out).mono ?_; intro e q1 hE; obtain rfl := hE.1; obtain ⟨Fz, hX, hMv⟩ := HX.out.app1 hE; have HX := Lib.hid hX; have HB7 := Lib.hid (HB7.out.app1 hMv); clear hE hX hMv
                    try go_wp2_with fail
                    refine hK.out _ _ (HS.out _ _ _ _ _ HX.out) (fun hHeld => ?_)
                    clear hK K
                    try simp only [Act.put, List.getElem_toArray, List.getElem_cons_succ, List.getElem_cons_zero, List.setIfInBounds_toArray, List.set_cons_zero, List.set_cons_succ]
                    refine wpAnyH_ready (rs := [5, 6]) (by kernel_rfl) (by simp) ?_
                    refine AllReadyH.cons rfl (fun K hK => ?_) (AllReadyH.cons rfl (fun K hK => ?_) AllReadyH.nil)
                    · try simp only [List.getElem_toArray, List.getElem_cons_succ, List.getElem_cons_zero]
                      go_simp
                      go_at_call 11; refine (HA2.out _ _ _ HX.out).mono ?_; intro e q2 hE; obtain rfl := hE.1; obtain ⟨Fz, hX, hMv⟩ := HX.out.app1 hE; have HX := Lib.hid hX; have HB7 := Lib.hid (HB7.out.app1 hMv); clear hE hX hMv
                      try go_wp2_with fail
                      refine hK.out _ _ (HS.out _ _ _ _ _ HX.out) (fun hHeld => ?_)
                      clear hK K
                      try simp only [Act.put, List.getElem_toArray, List.getElem_cons_succ, List.getElem_cons_zero, List.setIfInBounds_toArray, List.set_cons_zero, List.set_cons_succ]
                      refine wpAnyH_ready (rs := [6]) (by kernel_rfl) (by simp) ?_
                      refine AllReadyH.cons rfl (fun K hK => ?_) AllReadyH.nil
                      try simp only [List.getElem_toArray, List.getElem_cons_succ, List.getElem_cons_zero]
                      go_simp
                      refine hK.out _ _ (HS.out _ _ _ _ _ (HX.out.step ((Frm.Turn.refl [] _).alloc (.cells #[.int .i64 0, .int .i64 0] 40)))) (fun hHeld => ?_)
                      clear hK K
                      have hb := HX.out.box
                      have HB7' := HB7.out.step ((Frm.Turn.refl [] _).alloc (.cells #[.int .i64 0, .int .i64 0] 40))
                      have neHB6HB7 := Ne.symm (Nat.ne_of_lt HB7.out.lt)
                      have hx := HX.out.step ((Frm.Turn.refl [] _).alloc (.cells #[.int .i64 0, .int .i64 0] 40))
                      clear HX HB7
                      generalize World.alloc q2 (.cells #[.int .i64 0, .int .i64 0] 40) = z6 at hx hb hHeld HB7' ⊢
                      have HX := Lib.hid hx
                      have HB6 := Lib.hid hb
                      have HB7 := Lib.hid HB7'
                      have HNeHB6HB7 := Lib.hid neHB6HB7
                      clear hx hb HB7' neHB6HB7
                      try simp only [Act.put, List.getElem_toArray, List.getElem_cons_succ, List.getElem_cons_zero, List.setIfInBounds_toArray, List.set_cons_zero, List.set_cons_succ]
                      have lz := HB6.out.lt
                      obtain ⟨⟨z0, z1⟩, z2, z3⟩ := blk2 HB6.out.blk
                      refine wpAnyH_ready (rs := [8]) (by kernel_rfl) (by simp) ?_
                      refine AllReadyH.cons rfl (fun K hK => ?_) AllReadyH.nil
                      try simp only [List.getElem_toArray, List.getElem_cons_succ, List.getElem_cons_zero]
                      go_simp
                      refine hK.out _ _ (HS.out _ _ _ _ _ (HX.out.put HB6.out (.int .i64 x1) (.int .i64 y1))) (fun hHeld => ?_)
                      clear hK K z0 z1 z2 z3 lz
                      have hb := HB6.out.put x1 y1
                      have hx := HX.out.put HB6.out (.int .i64 x1) (.int .i64 y1)
                      have HB7' := HB7.out.other (Ne.symm HNeHB6HB7.out) (.int .i64 x1) (.int .i64 y1)
                      clear HX HB6 HB7
                      generalize World.setCell (World.setCell z6 ⟨q2.heap.size, 0, none⟩ (.int .i64 x1)) ⟨q2.heap.size, 1, none⟩ (.int .i64 y1) = s8 at hx hb hHeld HB7' ⊢
                      have HX := Lib.hid hx
                      have HB6 := Lib.hid hb
                      have HB7 := Lib.hid HB7'
                      clear hx hb HB7'
                      try simp only [Act.put, List.getElem_toArray, List.getElem_cons_succ, List.getElem_cons_zero, List.setIfInBounds_toArray, List.set_cons_zero, List.set_cons_succ]
                      have lz := HB7.out.lt
                      obtain ⟨⟨z0, z1⟩, z2, z3⟩ := blk2 HB7.out.blk
                      refine wpAnyH_ready (rs := [9]) (by kernel_rfl) (by simp) ?_
                      refine AllReadyH.cons rfl (fun K hK => ?_) AllReadyH.nil
                      try simp only [List.getElem_toArray, List.getElem_cons_succ, List.getElem_cons_zero]
                      go_simp
                      refine hK.out _ _ (HS.out _ _ _ _ _ (HX.out.put HB7.out (.int .i64 u1) (.int .i64 v1))) (fun hHeld => ?_)
                      clear hK K z0 z1 z2 z3 lz
                      have hb := HB7.out.put u1 v1
                      have hx := HX.out.put HB7.out (.int .i64 u1) (.int .i64 v1)
                      have HB6' := HB6.out.other HNeHB6HB7.out (.int .i64 u1) (.int .i64 v1)
                      clear HX HB7 HB6
                      generalize World.setCell (World.setCell s8 ⟨wd.heap.size, 0, none⟩ (.int .i64 u1)) ⟨wd.heap.size, 1, none⟩ (.int .i64 v1) = s9 at hx hb hHeld HB6' ⊢
                      have HX := Lib.hid hx
                      have HB7 := Lib.hid hb
                      have HB6 := Lib.hid HB6'
                      clear hx hb HB6'
                      try simp only [Act.put, List.getElem_toArray, List.getElem_cons_succ, List.getElem_cons_zero, List.setIfInBounds_toArray, List.set_cons_zero, List.set_cons_succ]
                      refine wpAnyH_done (by kernel_rfl) ?_ _
                      go_wp2_with fail
                      go_meet
                      case rel => exact ⟨_, _, _, _, rfl, rfl, HX.out, HB6.out, HB7.out⟩
                    · try simp only [List.getElem_toArray, List.getElem_cons_succ, List.getElem_cons_zero]
                      go_simp
                      refine hK.out _ _ (HS.out _ _ _ _ _ (HX.out.step ((Frm.Turn.refl [] _).alloc (.cells #[.int .i64 0, .int .i64 0] 40)))) (fun hHeld => ?_)
                      clear hK K
                      have hb := HX.out.box
                      have HB7' := HB7.out.step ((Frm.Turn.refl [] _).alloc (.cells #[.int .i64 0, .int .i64 0] 40))
                      have neHB6HB7 := Ne.symm (Nat.ne_of_lt HB7.out.lt)
                      have hx := HX.out.step ((Frm.Turn.refl [] _).alloc (.cells #[.int .i64 0, .int .i64 0] 40))
                      clear HX HB7
                      generalize World.alloc q1 (.cells #[.int .i64 0, .int .i64 0] 40) = z6 at hx hb hHeld HB7' ⊢
                      have HX := Lib.hid hx
                      have HB6 := Lib.hid hb
                      have HB7 := Lib.hid HB7'
                      have HNeHB6HB7 := Lib.hid neHB6HB7
                      clear hx hb HB7' neHB6HB7
                      try simp only [Act.put, List.getElem_toArray, List.getElem_cons_succ, List.getElem_cons_zero, List.setIfInBounds_toArray, List.set_cons_zero, List.set_cons_succ]
                      refine wpAnyH_ready (rs := [5]) (by kernel_rfl) (by simp) ?_
                      refine AllReadyH.cons rfl (fun K hK => ?_) AllReadyH.nil
                      try simp only [List.getElem_toArray, List.getElem_cons_succ, List.getElem_cons_zero]
                      go_simp
                      go_at_call 11; refine (HA2.out _ _ _ HX.out).mono ?_; intro e q2 hE; obtain rfl := hE.1; obtain ⟨Fz, hX, hMv⟩ := HX.out.app1 hE; have HX := Lib.hid hX; have HB7 := Lib.hid (HB7.out.app1 hMv); have HB6 := Lib.hid (HB6.out.app1 hMv); clear hE hX hMv
                      try go_wp2_with fail
                      refine hK.out _ _ (HS.out _ _ _ _ _ HX.out) (fun hHeld => ?_)
                      clear hK K
                      try simp only [Act.put, List.getElem_toArray, List.getElem_cons_succ, List.getElem_cons_zero, List.setIfInBounds_toArray, List.set_cons_zero, List.set_cons_succ]
                      have lz := HB6.out.lt
                      obtain ⟨⟨z0, z1⟩, z2, z3⟩ := blk2 HB6.out.blk
                      refine wpAnyH_ready (rs := [8]) (by kernel_rfl) (by simp) ?_
                      refine AllReadyH.cons rfl (fun K hK => ?_) AllReadyH.nil
                      try simp only [List.getElem_toArray, List.getElem_cons_succ, List.getElem_cons_zero]
                      go_simp
                      refine hK.out _ _ (HS.out _ _ _ _ _ (HX.out.put HB6.out (.int .i64 x1) (.int .i64 y1))) (fun hHeld => ?_)
                      clear hK K z0 z1 z2 z3 lz
                      have hb := HB6.out.put x1 y1
                      have hx := HX.out.put HB6.out (.int .i64 x1) (.int .i64 y1)
                      have HB7' := HB7.out.other (Ne.symm HNeHB6HB7.out) (.int .i64 x1) (.int .i64 y1)
                      clear HX HB6 HB7
                      generalize World.setCell (World.setCell q2 ⟨q1.heap.size, 0, none⟩ (.int .i64 x1)) ⟨q1.heap.size, 1, none⟩ (.int .i64 y1) = s8 at hx hb hHeld HB7' ⊢
                      have HX := Lib.hid hx
                      have HB6 := Lib.hid hb
                      have HB7 := Lib.hid HB7'
                      clear hx hb HB7'
                      try simp only [Act.put, List.getElem_toArray, List.getElem_cons_succ, List.getElem_cons_zero, List.setIfInBounds_toArray, List.set_cons_zero, List.set_cons_succ]
                      have lz := HB7.out.lt
                      obtain ⟨⟨z0, z1⟩, z2, z3⟩ := blk2 HB7.out.blk
                      refine wpAnyH_ready (rs := [9]) (by kernel_rfl) (by simp) ?_
                      refine AllReadyH.cons rfl (fun K hK => ?_) AllReadyH.nil
                      try simp only [List.getElem_toArray, List.getElem_cons_succ, List.getElem_cons_zero]
                      go_simp
                      refine hK.out _ _ (HS.out _ _ _ _ _ (HX.out.put HB7.out (.int .i64 u1) (.int .i64 v1))) (fun hHeld => ?_)
                      clear hK K z0 z1 z2 z3 lz
                      have hb := HB7.out.put u1 v1
                      have hx := HX.out.put HB7.out (.int .i64 u1) (.int .i64 v1)
                      have HB6' := HB6.out.other HNeHB6HB7.out (.int .i64 u1) (.int .i64 v1)
                      clear HX HB7 HB6
                      generalize World.setCell (World.setCell s8 ⟨wd.heap.size, 0, none⟩ (.int .i64 u1)) ⟨wd.heap.size, 1, none⟩ (.int .i64 v1) = s9 at hx hb hHeld HB6' ⊢
                      have HX := Lib.hid hx
                      have HB7 := Lib.hid hb
                      have HB6 := Lib.hid HB6'
                      clear hx hb HB6'
                      try simp only [Act.put, List.getElem_toArray, List.getElem_cons_succ, List.getElem_cons_zero, List.setIfInBounds_toArray, List.set_cons_zero, List.set_cons_succ]
                      refine wpAnyH_done (by kernel_rfl) ?_ _
                      go_wp2_with fail
                      go_meet
                      case rel => exact ⟨_, _, _, _, rfl, rfl, HX.out, HB6.out, HB7.out⟩
                  · try simp only [List.getElem_toArray, List.getElem_cons_succ, List.getElem_cons_zero]
                    go_simp
                    refine hK.out _ _ (HS.out _ _ _ _ _ (HX.out.step ((Frm.Turn.refl [] _).alloc (.cells #[.int .i64 0, .int .i64 0] 40)))) (fun hHeld => ?_)
                    clear hK K
                    have hb := HX.out.box
                    have HB7' := HB7.out.step ((Frm.Turn.refl [] _).alloc (.cells #[.int .i64 0, .int .i64 0] 40))
                    have neHB6HB7 := Ne.symm (Nat.ne_of_lt HB7.out.lt)
                    have hx := HX.out.step ((Frm.Turn.refl [] _).alloc (.cells #[.int .i64 0, .int .i64 0] 40))
                    clear HX HB7
                    generalize World.alloc z7 (.cells #[.int .i64 0, .int .i64 0] 40) = z6 at hx hb hHeld HB7' ⊢
                    have HX := Lib.hid hx
                    have HB6 := Lib.hid hb
                    have HB7 := Lib.hid HB7'
                    have HNeHB6HB7 := Lib.hid neHB6HB7
                    clear hx hb HB7' neHB6HB7
                    try simp only [Act.put, List.getElem_toArray, List.getElem_cons_succ, List.getElem_cons_zero, List.setIfInBounds_toArray, List.set_cons_zero, List.set_cons_succ]
                    refine wpAnyH_ready (rs := [2]) (by kernel_rfl) (by simp) ?_
                    refine AllReadyH.cons rfl (fun K hK => ?_) AllReadyH.nil
                    try simp only [List.getElem_toArray, List.getElem_cons_succ, List.getElem_cons_zero]
                    go_simp
                    go_at_call 11; refine (HA1.out _ _ _ HX.out).mono ?_; intro e q1 hE; obtain rfl := hE.1; obtain ⟨Fz, hX, hMv⟩ := HX.out.app1 hE; have HX := Lib.hid hX; have HB7 := Lib.hid (HB7.out.app1 hMv); have HB6 := Lib.hid (HB6.out.app1 hMv); clear hE hX hMv
                    try go_wp2_with fail
                    refine hK.out _ _ (HS.out _ _ _ _ _ HX.out) (fun hHeld => ?_)
                    clear hK K
                    try simp only [Act.put, List.getElem_toArray, List.getElem_cons_succ, List.getElem_cons_zero, List.setIfInBounds_toArray, List.set_cons_zero, List.set_cons_succ]
                    refine wpAnyH_ready (rs := [5]) (by kernel_rfl) (by simp) ?_
                    refine AllReadyH.cons rfl (fun K hK => ?_) AllReadyH.nil
                    try simp only [List.getElem_toArray, List.getElem_cons_succ, List.getElem_cons_zero]
                    go_simp
                    go_at_call 11; refine (HA2.out _ _ _ HX.out).mono ?_; intro e q2 hE; obtain rfl := hE.1; obtain ⟨Fz, hX, hMv⟩ := HX.out.app1 hE; have HX := Lib.hid hX; have HB7 := Lib.hid (HB7.out.app1 hMv); have HB6 := Lib.hid (HB6.out.app1 hMv); clear hE hX hMv
                    try go_wp2_with fail
                    refine hK.out _ _ (HS.out _ _ _ _ _ HX.out) (fun hHeld => ?_)
                    clear hK K
                    try simp only [Act.put, List.getElem_toArray, List.getElem_cons_succ, List.getElem_cons_zero, List.setIfInBounds_toArray, List.set_cons_zero, List.set_cons_succ]
                    have lz := HB6.out.lt
                    obtain ⟨⟨z0, z1⟩, z2, z3⟩ := blk2 HB6.out.blk
                    refine wpAnyH_ready (rs := [8]) (by kernel_rfl) (by simp) ?_
                    refine AllReadyH.cons rfl (fun K hK => ?_) AllReadyH.nil
                    try simp only [List.getElem_toArray, List.getElem_cons_succ, List.getElem_cons_zero]
                    go_simp
                    refine hK.out _ _ (HS.out _ _ _ _ _ (HX.out.put HB6.out (.int .i64 x1) (.int .i64 y1))) (fun hHeld => ?_)
                    clear hK K z0 z1 z2 z3 lz
                    have hb := HB6.out.put x1 y1
                    have hx := HX.out.put HB6.out (.int .i64 x1) (.int .i64 y1)
                    have HB7' := HB7.out.other (Ne.symm HNeHB6HB7.out) (.int .i64 x1) (.int .i64 y1)
                    clear HX HB6 HB7
                    generalize World.setCell (World.setCell q2 ⟨z7.heap.size, 0, none⟩ (.int .i64 x1)) ⟨z7.heap.size, 1, none⟩ (.int .i64 y1) = s8 at hx hb hHeld HB7' ⊢
                    have HX := Lib.hid hx
                    have HB6 := Lib.hid hb
                    have HB7 := Lib.hid HB7'
                    clear hx hb HB7'
                    try simp only [Act.put, List.getElem_toArray, List.getElem_cons_succ, List.getElem_cons_zero, List.setIfInBounds_toArray, List.set_cons_zero, List.set_cons_succ]
                    have lz := HB7.out.lt
                    obtain ⟨⟨z0, z1⟩, z2, z3⟩ := blk2 HB7.out.blk
                    refine wpAnyH_ready (rs := [9]) (by kernel_rfl) (by simp) ?_
                    refine AllReadyH.cons rfl (fun K hK => ?_) AllReadyH.nil
                    try simp only [List.getElem_toArray, List.getElem_cons_succ, List.getElem_cons_zero]
                    go_simp
                    refine hK.out _ _ (HS.out _ _ _ _ _ (HX.out.put HB7.out (.int .i64 u1) (.int .i64 v1))) (fun hHeld => ?_)
                    clear hK K z0 z1 z2 z3 lz
                    have hb := HB7.out.put u1 v1
                    have hx := HX.out.put HB7.out (.int .i64 u1) (.int .i64 v1)
                    have HB6' := HB6.out.other HNeHB6HB7.out (.int .i64 u1) (.int .i64 v1)
                    clear HX HB7 HB6
                    generalize World.setCell (World.setCell s8 ⟨wd.heap.size, 0, none⟩ (.int .i64 u1)) ⟨wd.heap.size, 1, none⟩ (.int .i64 v1) = s9 at hx hb hHeld HB6' ⊢
                    have HX := Lib.hid hx
                    have HB7 := Lib.hid hb
                    have HB6 := Lib.hid HB6'
                    clear hx hb HB6'
                    try simp only [Act.put, List.getElem_toArray, List.getElem_cons_succ, List.getElem_cons_zero, List.setIfInBounds_toArray, List.set_cons_zero, List.set_cons_succ]
                    refine wpAnyH_done (by kernel_rfl) ?_ _
                    go_wp2_with fail
                    go_meet
                    case rel => exact ⟨_, _, _, _, rfl, rfl, HX.out, HB6.out, HB7.out⟩
              case rest =>
                obtain ⟨n5, k5, Fc, Fd, rfl, rfl, hX, hb1, hb2⟩ := hcut
                obtain ⟨wA, rfl⟩ : ∃ wA : World, wA = wc := ⟨_, rfl⟩
                have HX1 := Lib.hid hX
                have HP1 := Lib.hid hb1
                have HP2 := Lib.hid hb2
                clear hX hb1 hb2 HX0
                go_upto_region 13 with fail
                go_cut [13, 14] (fun s13 s14 W => Cut4 w4 r3.heap.size b2 F F2 m2 m2 x1 y1 u1 v1 n5 k5 s13 s14 W)
                case first =>
                  have HX := Lib.hid (HX1.out.step ((Frm.Turn.refl [] wA).drew))
                  have HPA := Lib.hid (HP1.out.step ((Frm.Turn.refl [] wA).drew))
                  have HPB := Lib.hid (HP2.out.step ((Frm.Turn.refl [] wA).drew))
                  clear HP1 HP2 HX1
                  refine wp_region_held_drew (S := fun W' => (W'.cell? ⟨w.heap.size, 0, none⟩ = some (.int .i64 o.c) ∧ W'.cell? ⟨w.heap.size, 1, none⟩ = some (.int .i64 o.k) ∧ W'.cell? ⟨w.heap.size, 2, none⟩ = some (.int .i64 o.a) ∧ W'.cell? ⟨w.heap.size, 3, none⟩ = some (.int .i64 o.b)) ∧ W'.cell? ⟨w.heap.size + 1, 0, none⟩ = some (.int .i64 p.c) ∧ W'.cell? ⟨w.heap.size + 1, 1, none⟩ = some (.int .i64 p.k) ∧ W'.cell? ⟨w.heap.size + 1, 2, none⟩ = some (.int .i64 p.a) ∧ W'.cell? ⟨w.heap.size + 1, 3, none⟩ = some (.int .i64 p.b)) (by kernel_rfl) ?_ (fun hHeld => ?_)
                  · exact HS.out _ _ _ _ _ HX.out
                  generalize World.drew wA = wdb at HX hHeld HPA HPB ⊢
                  refine wpAnyH_take (i := 0) (v := ?_) rfl (by kernel_rfl) (by kernel_rfl) (by kernel_rfl) (fun _ _ _ h => h) (Or.inl ⟨by rfl, ?_⟩) (by assumption) ?_
                  rotate_left
                  · (intro w hSw; (try dsimp only at hSw); go_simp; try with_reducible rfl)
                  try simp only [Act.put, List.getElem_toArray, List.getElem_cons_succ, List.getElem_cons_zero, List.setIfInBounds_toArray, List.set_cons_zero, List.set_cons_succ]
                  refine wpAnyH_take (i := 1) (v := ?_) rfl (by kernel_rfl) (by kernel_rfl) (by kernel_rfl) (fun _ _ _ h => h) (Or.inl ⟨by rfl, ?_⟩) (by assumption) ?_
                  rotate_left
                  · (intro w hSw; (try dsimp only at hSw); go_simp; try with_reducible rfl)
                  try simp only [Act.put, List.getElem_toArray, List.getElem_cons_succ, List.getElem_cons_zero, List.setIfInBounds_toArray, List.set_cons_zero, List.set_cons_succ]
                  refine wpAnyH_take (i := 3) (v := ?_) rfl (by kernel_rfl) (by kernel_rfl) (by kernel_rfl) (fun _ _ _ h => h) (Or.inl ⟨by rfl, ?_⟩) (by assumption) ?_
                  rotate_left
                  · (intro w hSw; (try dsimp only at hSw); go_simp; try with_reducible rfl)
                  try simp only [Act.put, List.getElem_toArray, List.getElem_cons_succ, List.getElem_cons_zero, List.setIfInBounds_toArray, List.set_cons_zero, List.set_cons_succ]
                  refine wpAnyH_take (i := 4) (v := ?_) rfl (by kernel_rfl) (by kernel_rfl) (by kernel_rfl) (fun _ _ _ h => h) (Or.inl ⟨by rfl, ?_⟩) (by assumption) ?_
                  rotate_left
                  · (intro w hSw; (try dsimp only at hSw); go_simp; try with_reducible rfl)
                  try simp only [Act.put, List.getElem_toArray, List.getElem_cons_succ, List.getElem_cons_zero, List.setIfInBounds_toArray, List.set_cons_zero, List.set_cons_succ]
                  refine wpAnyH_ready (rs := [2, 6, 7]) (by kernel_rfl) (by simp) ?_
                  refine AllReadyH.cons rfl (fun K hK => ?_) (AllReadyH.cons rfl (fun K hK => ?_) (AllReadyH.cons rfl (fun K hK => ?_) AllReadyH.nil))
                  · try simp only [List.getElem_toArray, List.getElem_cons_succ, List.getElem_cons_zero]
                    go_simp
                    go_at_call 11; refine (HA3.out _ _ _ HX.out).mono ?_; intro e q1b hE; obtain rfl := hE.1; obtain ⟨Fz, hX, hMv⟩ := HX.out.app2 hE; have HX := Lib.hid hX; have HPA := Lib.hid (HPA.out.app2 hMv); have HPB := Lib.hid (HPB.out.app2 hMv); clear hE hX hMv
                    try go_wp2_with fail
                    refine hK.out _ _ (HS.out _ _ _ _ _ HX.out) (fun hHeld => ?_)
                    clear hK K
                    try simp only [Act.put, List.getElem_toArray, List.getElem_cons_succ, List.getElem_cons_zero, List.setIfInBounds_toArray, List.set_cons_zero, List.set_cons_succ]
                    refine wpAnyH_ready (rs := [5, 6, 7]) (by kernel_rfl) (by simp) ?_
                    refine AllReadyH.cons rfl (fun K hK => ?_) (AllReadyH.cons rfl (fun K hK => ?_) (AllReadyH.cons rfl (fun K hK => ?_) AllReadyH.nil))
                    · try simp only [List.getElem_toArray, List.getElem_cons_succ, List.getElem_cons_zero]
                      go_simp
                      go_at_call 11; refine (HA4.out _ _ _ HX.out).mono ?_; intro e q2b hE; obtain rfl := hE.1; obtain ⟨Fz, hX, hMv⟩ := HX.out.app2 hE; have HX := Lib.hid hX; have HPA := Lib.hid (HPA.out.app2 hMv); have HPB := Lib.hid (HPB.out.app2 hMv); clear hE hX hMv
                      try go_wp2_with fail
                      refine hK.out _ _ (HS.out _ _ _ _ _ HX.out) (fun hHeld => ?_)
                      clear hK K
                      try simp only [Act.put, List.getElem_toArray, List.getElem_cons_succ, List.getElem_cons_zero, List.setIfInBounds_toArray, List.set_cons_zero, List.set_cons_succ]
                      refine wpAnyH_ready (rs := [6, 7]) (by kernel_rfl) (by simp) ?_
                      refine AllReadyH.cons rfl (fun K hK => ?_) (AllReadyH.cons rfl (fun K hK => ?_) AllReadyH.nil)
                      · try simp only [List.getElem_toArray, List.getElem_cons_succ, List.getElem_cons_zero]
                        go_simp
                        refine hK.out _ _ (HS.out _ _ _ _ _ (HX.out.step ((Frm.Turn.refl [] _).alloc (.cells #[.int .i64 0, .int .i64 0] 40)))) (fun hHeld => ?_)
                        clear hK K
                        have hb := HX.out.box
                        have HPA' := HPA.out.step ((Frm.Turn.refl [] _).alloc (.cells #[.int .i64 0, .int .i64 0] 40))
                        have neHB6bHPA := Ne.symm (Nat.ne_of_lt HPA.out.lt)
                        have HPB' := HPB.out.step ((Frm.Turn.refl [] _).alloc (.cells #[.int .i64 0, .int .i64 0] 40))
                        have neHB6bHPB := Ne.symm (Nat.ne_of_lt HPB.out.lt)
                        have hx := HX.out.step ((Frm.Turn.refl [] _).alloc (.cells #[.int .i64 0, .int .i64 0] 40))
                        clear HX HPA HPB
                        generalize World.alloc q2b (.cells #[.int .i64 0, .int .i64 0] 40) = z6b at hx hb hHeld HPA' HPB' ⊢
                        have HX := Lib.hid hx
                        have HB6b := Lib.hid hb
                        have HPA := Lib.hid HPA'
                        have HNeHB6bHPA := Lib.hid neHB6bHPA
                        have HPB := Lib.hid HPB'
                        have HNeHB6bHPB := Lib.hid neHB6bHPB
                        clear hx hb HPA' neHB6bHPA HPB' neHB6bHPB
                        try simp only [Act.put, List.getElem_toArray, List.getElem_cons_succ, List.getElem_cons_zero, List.setIfInBounds_toArray, List.set_cons_zero, List.set_cons_succ]
                        refine wpAnyH_ready (rs := [7]) (by kernel_rfl) (by simp) ?_
                        refine AllReadyH.cons rfl (fun K hK => ?_) AllReadyH.nil
                        try simp only [List.getElem_toArray, List.getElem_cons_succ, List.getElem_cons_zero]
                        go_simp
                        refine hK.out _ _ (HS.out _ _ _ _ _ (HX.out.step ((Frm.Turn.refl [] _).alloc (.cells #[.int .i64 0, .int .i64 0] 40)))) (fun hHeld => ?_)
                        clear hK K
                        have hb := HX.out.box
                        have HPA' := HPA.out.step ((Frm.Turn.refl [] _).alloc (.cells #[.int .i64 0, .int .i64 0] 40))
                        have neHB7bHPA := Ne.symm (Nat.ne_of_lt HPA.out.lt)
                        have HPB' := HPB.out.step ((Frm.Turn.refl [] _).alloc (.cells #[.int .i64 0, .int .i64 0] 40))
                        have neHB7bHPB := Ne.symm (Nat.ne_of_lt HPB.out.lt)
                        have HB6b' := HB6b.out.step ((Frm.Turn.refl [] _).alloc (.cells #[.int .i64 0, .int .i64 0] 40))
                        have neHB7bHB6b := Ne.symm (Nat.ne_of_lt HB6b.out.lt)
                        have hx := HX.out.step ((Frm.Turn.refl [] _).alloc (.cells #[.int .i64 0, .int .i64 0] 40))
                        clear HX HPA HPB HB6b
                        generalize World.alloc z6b (.cells #[.int .i64 0, .int .i64 0] 40) = z7b at hx hb hHeld HPA' HPB' HB6b' ⊢
                        have HX := Lib.hid hx
                        have HB7b := Lib.hid hb
                        have HPA := Lib.hid HPA'
                        have HNeHB7bHPA := Lib.hid neHB7bHPA
                        have HPB := Lib.hid HPB'
                        have HNeHB7bHPB := Lib.hid neHB7bHPB
                        have HB6b := Lib.hid HB6b'
                        have HNeHB7bHB6b := Lib.hid neHB7bHB6b
                        clear hx hb HPA' neHB7bHPA HPB' neHB7bHPB HB6b' neHB7bHB6b
                        try simp only [Act.put, List.getElem_toArray, List.getElem_cons_succ, List.getElem_cons_zero, List.setIfInBounds_toArray, List.set_cons_zero, List.set_cons_succ]
                        have lz := HB6b.out.lt
                        obtain ⟨⟨z0, z1⟩, z2, z3⟩ := blk2 HB6b.out.blk
                        refine wpAnyH_ready (rs := [8]) (by kernel_rfl) (by simp) ?_
                        refine AllReadyH.cons rfl (fun K hK => ?_) AllReadyH.nil
                        try simp only [List.getElem_toArray, List.getElem_cons_succ, List.getElem_cons_zero]
                        go_simp
                        refine hK.out _ _ (HS.out _ _ _ _ _ (HX.out.put HB6b.out (.int .i64 u1) (.int .i64 v1))) (fun hHeld => ?_)
                        clear hK K z0 z1 z2 z3 lz
                        have hb := HB6b.out.put u1 v1
                        have hx := HX.out.put HB6b.out (.int .i64 u1) (.int .i64 v1)
                        have HPA' := HPA.out.other (Ne.symm HNeHB6bHPA.out) (.int .i64 u1) (.int .i64 v1)
                        have HPB' := HPB.out.other (Ne.symm HNeHB6bHPB.out) (.int .i64 u1) (.int .i64 v1)
                        have HB7b' := HB7b.out.other HNeHB7bHB6b.out (.int .i64 u1) (.int .i64 v1)
                        clear HX HB6b HPA HPB HB7b
                        generalize World.setCell (World.setCell z7b ⟨q2b.heap.size, 0, none⟩ (.int .i64 u1)) ⟨q2b.heap.size, 1, none⟩ (.int .i64 v1) = s8b at hx hb hHeld HPA' HPB' HB7b' ⊢
                        have HX := Lib.hid hx
                        have HB6b := Lib.hid hb
                        have HPA := Lib.hid HPA'
                        have HPB := Lib.hid HPB'
                        have HB7b := Lib.hid HB7b'
                        clear hx hb HPA' HPB' HB7b'
                        try simp only [Act.put, List.getElem_toArray, List.getElem_cons_succ, List.getElem_cons_zero, List.setIfInBounds_toArray, List.set_cons_zero, List.set_cons_succ]
                        have lz := HB7b.out.lt
                        obtain ⟨⟨z0, z1⟩, z2, z3⟩ := blk2 HB7b.out.blk
                        refine wpAnyH_ready (rs := [9]) (by kernel_rfl) (by simp) ?_
                        refine AllReadyH.cons rfl (fun K hK => ?_) AllReadyH.nil
                        try simp only [List.getElem_toArray, List.getElem_cons_succ, List.getElem_cons_zero]
                        go_simp
                        refine hK.out _ _ (HS.out _ _ _ _ _ (HX.out.put HB7b.out (.int .i64 x1) (.int .i64 y1))) (fun hHeld => ?_)
                        clear hK K z0 z1 z2 z3 lz
                        have hb := HB7b.out.put x1 y1
                        have hx := HX.out.put HB7b.out (.int .i64 x1) (.int .i64 y1)
                        have HPA' := HPA.out.other (Ne.symm HNeHB7bHPA.out) (.int .i64 x1) (.int .i64 y1)
                        have HPB' := HPB.out.other (Ne.symm HNeHB7bHPB.out) (.int .i64 x1) (.int .i64 y1)
                        have HB6b' := HB6b.out.other (Ne.symm HNeHB7bHB6b.out) (.int .i64 x1) (.int .i64 y1)
                        clear HX HB7b HPA HPB HB6b
                        generalize World.setCell (World.setCell s8b ⟨z6b.heap.size, 0, none⟩ (.int .i64 x1)) ⟨z6b.heap.size, 1, none⟩ (.int .i64 y1) = s9b at hx hb hHeld HPA' HPB' HB6b' ⊢
                        have HX := Lib.hid hx
                        have HB7b := Lib.hid hb
                        have HPA := Lib.hid HPA'
                        have HPB := Lib.hid HPB'
                        have HB6b := Lib.hid HB6b'
                        clear hx hb HPA' HPB' HB6b'
                        try simp only [Act.put, List.getElem_toArray, List.getElem_cons_succ, List.getElem_cons_zero, List.setIfInBounds_toArray, List.set_cons_zero, List.set_cons_succ]
                        refine wpAnyH_done (by kernel_rfl) ?_ _
                        go_wp2_with fail
                        go_meet
                        case rel => exact ⟨_, _, _, _, rfl, rfl, HX.out, HPA.out, HPB.out, HB6b.out, HB7b.out⟩
                      · try simp only [List.getElem_toArray, List.getElem_cons_succ, List.getElem_cons_zero]
                        go_simp
                        refine hK.out _ _ (HS.out _ _ _ _ _ (HX.out.step ((Frm.Turn.refl [] _).alloc (.cells #[.int .i64 0, .int .i64 0] 40)))) (fun hHeld => ?_)
                        clear hK K
                        have hb := HX.out.box
                        have HPA' := HPA.out.step ((Frm.Turn.refl [] _).alloc (.cells #[.int .i64 0, .int .i64 0] 40))
                        have neHB7bHPA := Ne.symm (Nat.ne_of_lt HPA.out.lt)
                        have HPB' := HPB.out.step ((Frm.Turn.refl [] _).alloc (.cells #[.int .i64 0, .int .i64 0] 40))
                        have neHB7bHPB := Ne.symm (Nat.ne_of_lt HPB.out.lt)
                        have hx := HX.out.step ((Frm.Turn.refl [] _).alloc (.cells #[.int .i64 0, .int .i64 0] 40))
                        clear HX HPA HPB
                        generalize World.alloc q2b (.cells #[.int .i64 0, .int .i64 0] 40) = z7b at hx hb hHeld HPA' HPB' ⊢
                        have HX := Lib.hid hx
                        have HB7b := Lib.hid hb
                        have HPA := Lib.hid HPA'
                        have HNeHB7bHPA := Lib.hid neHB7bHPA
                        have HPB := Lib.hid HPB'
                        have HNeHB7bHPB := Lib.hid neHB7bHPB
                        clear hx hb HPA' neHB7bHPA HPB' neHB7bHPB
                        try simp only [Act.put, List.getElem_toArray, List.getElem_cons_succ, List.getElem_cons_zero, List.setIfInBounds_toArray, List.set_cons_zero, List.set_cons_succ]
                        refine wpAnyH_ready (rs := [6]) (by kernel_rfl) (by simp) ?_
                        refine AllReadyH.cons rfl (fun K hK => ?_) AllReadyH.nil
                        try simp only [List.getElem_toArray, List.getElem_cons_succ, List.getElem_cons_zero]
                        go_simp
                        refine hK.out _ _ (HS.out _ _ _ _ _ (HX.out.step ((Frm.Turn.refl [] _).alloc (.cells #[.int .i64 0, .int .i64 0] 40)))) (fun hHeld => ?_)
                        clear hK K
                        have hb := HX.out.box
                        have HPA' := HPA.out.step ((Frm.Turn.refl [] _).alloc (.cells #[.int .i64 0, .int .i64 0] 40))
                        have neHB6bHPA := Ne.symm (Nat.ne_of_lt HPA.out.lt)
                        have HPB' := HPB.out.step ((Frm.Turn.refl [] _).alloc (.cells #[.int .i64 0, .int .i64 0] 40))
                        have neHB6bHPB := Ne.symm (Nat.ne_of_lt HPB.out.lt)
                        have HB7b' := HB7b.out.step ((Frm.Turn.refl [] _).alloc (.cells #[.int .i64 0, .int .i64 0] 40))
                        have neHB6bHB7b := Ne.symm (Nat.ne_of_lt HB7b.out.lt)
                        have hx := HX.out.step ((Frm.Turn.refl [] _).alloc (.cells #[.int .i64 0, .int .i64 0] 40))
                        clear HX HPA HPB HB7b
                        generalize World.alloc z7b (.cells #[.int .i64 0, .int .i64 0] 40) = z6b at hx hb hHeld HPA' HPB' HB7b' ⊢
                        have HX := Lib.hid hx
                        have HB6b := Lib.hid hb
                        have HPA := Lib.hid HPA'
                        have HNeHB6bHPA := Lib.hid neHB6bHPA
                        have HPB := Lib.hid HPB'
                        have HNeHB6bHPB := Lib.hid neHB6bHPB
                        have HB7b := Lib.hid HB7b'
                        have HNeHB6bHB7b := Lib.hid neHB6bHB7b
                        clear hx hb HPA' neHB6bHPA HPB' neHB6bHPB HB7b' neHB6bHB7b
                        try simp only [Act.put, List.getElem_toArray, List.getElem_cons_succ, List.getElem_cons_zero, List.setIfInBounds_toArray, List.set_cons_zero, List.set_cons_succ]
                        have lz := HB6b.out.lt
                        obtain ⟨⟨z0, z1⟩, z2, z3⟩ := blk2 HB6b.out.blk
                        refine wpAnyH_ready (rs := [8]) (by kernel_rfl) (by simp) ?_
                        refine AllReadyH.cons rfl (fun K hK => ?_) AllReadyH.nil
                        try simp only [List.getElem_toArray, List.getElem_cons_succ, List.getElem_cons_zero]
                        go_simp
                        refine hK.out _ _ (HS.out _ _ _ _ _ (HX.out.put HB6b.out (.int .i64 u1) (.int .i64 v1))) (fun hHeld => ?_)
                        clear hK K z0 z1 z2 z3 lz
                        have hb := HB6b.out.put u1 v1
                        have hx := HX.out.put HB6b.out (.int .i64 u1) (.int .i64 v1)
                        have HPA' := HPA.out.other (Ne.symm HNeHB6bHPA.out) (.int .i64 u1) (.int .i64 v1)
                        have HPB' := HPB.out.other (Ne.symm HNeHB6bHPB.out) (.int .i64 u1) (.int .i64 v1)
                        have HB7b' := HB7b.out.other (Ne.symm HNeHB6bHB7b.out) (.int .i64 u1) (.int .i64 v1)
                        clear HX HB6b HPA HPB HB7b
                        generalize World.setCell (World.setCell z6b ⟨z7b.heap.size, 0, none⟩ (.int .i64 u1)) ⟨z7b.heap.size, 1, none⟩ (.int .i64 v1) = s8b at hx hb hHeld HPA' HPB' HB7b' ⊢
                        have HX := Lib.hid hx
                        have HB6b := Lib.hid hb
                        have HPA := Lib.hid HPA'
                        have HPB := Lib.hid HPB'
                        have HB7b := Lib.hid HB7b'
                        clear hx hb HPA' HPB' HB7b'
                        try simp only [Act.put, List.getElem_toArray, List.getElem_cons_succ, List.getElem_cons_zero, List.setIfInBounds_toArray, List.set_cons_zero, List.set_cons_succ]
                        have lz := HB7b.out.lt
                        obtain ⟨⟨z0, z1⟩, z2, z3⟩ := blk2 HB7b.out.blk
                        refine wpAnyH_ready (rs := [9]) (by kernel_rfl) (by simp) ?_
                        refine AllReadyH.cons rfl (fun K hK => ?_) AllReadyH.nil
                        try simp only [List.getElem_toArray, List.getElem_cons_succ, List.getElem_cons_zero]
                        go_simp
                        refine hK.out _ _ (HS.out _ _ _ _ _ (HX.out.put HB7b.out (.int .i64 x1) (.int .i64 y1))) (fun hHeld => ?_)
                        clear hK K z0 z1 z2 z3 lz
                        have hb := HB7b.out.put x1 y1
                        have hx := HX.out.put HB7b.out (.int .i64 x1) (.int .i64 y1)
                        have HPA' := HPA.out.other (Ne.symm HNeHB7bHPA.out) (.int .i64 x1) (.int .i64 y1)
                        have HPB' := HPB.out.other (Ne.symm HNeHB7bHPB.out) (.int .i64 x1) (.int .i64 y1)
                        have HB6b' := HB6b.out.other HNeHB6bHB7b.out (.int .i64 x1) (.int .i64 y1)
                        clear HX HB7b HPA HPB HB6b
                        generalize World.setCell (World.setCell s8b ⟨q2b.heap.size, 0, none⟩ (.int .i64 x1)) ⟨q2b.heap.size, 1, none⟩ (.int .i64 y1) = s9b at hx hb hHeld HPA' HPB' HB6b' ⊢
                        have HX := Lib.hid hx
                        have HB7b := Lib.hid hb
                        have HPA := Lib.hid HPA'
                        have HPB := Lib.hid HPB'
                        have HB6b := Lib.hid HB6b'
                        clear hx hb HPA' HPB' HB6b'
                        try simp only [Act.put, List.getElem_toArray, List.getElem_cons_succ, List.getElem_cons_zero, List.setIfInBounds_toArray, List.set_cons_zero, List.set_cons_succ]
                        refine wpAnyH_done (by kernel_rfl) ?_ _
                        go_wp2_with fail
                        go_meet
                        case rel => exact ⟨_, _, _, _, rfl, rfl, HX.out, HPA.out, HPB.out, HB6b.out, HB7b.out⟩
                    · try simp only [List.getElem_toArray, List.getElem_cons_succ, List.getElem_cons_zero]
                      go_simp
                      refine hK.out _ _ (HS.out _ _ _ _ _ (HX.out.step ((Frm.Turn.refl [] _).alloc (.cells #[.int .i64 0, .int .i64 0] 40)))) (fun hHeld => ?_)
                      clear hK K
                      have hb := HX.out.box
                      have HPA' := HPA.out.step ((Frm.Turn.refl [] _).alloc (.cells #[.int .i64 0, .int .i64 0] 40))
                      have neHB6bHPA := Ne.symm (Nat.ne_of_lt HPA.out.lt)
                      have HPB' := HPB.out.step ((Frm.Turn.refl [] _).alloc (.cells #[.int .i64 0, .int .i64 0] 40))
                      have neHB6bHPB := Ne.symm (Nat.ne_of_lt HPB.out.lt)
                      have hx := HX.out.step ((Frm.Turn.refl [] _).alloc (.cells #[.int .i64 0, .int .i64 0] 40))
                      clear HX HPA HPB
                      generalize World.alloc q1b (.cells #[.int .i64 0, .int .i64 0] 40) = z6b at hx hb hHeld HPA' HPB' ⊢
                      have HX := Lib.hid hx
                      have HB6b := Lib.hid hb
                      have HPA := Lib.hid HPA'
                      have HNeHB6bHPA := Lib.hid neHB6bHPA
                      have HPB := Lib.hid HPB'
                      have HNeHB6bHPB := Lib.hid neHB6bHPB
                      clear hx hb HPA' neHB6bHPA HPB' neHB6bHPB
                      try simp only [Act.put, List.getElem_toArray, List.getElem_cons_succ, List.getElem_cons_zero, List.setIfInBounds_toArray, List.set_cons_zero, List.set_cons_succ]
                      refine wpAnyH_ready (rs := [5, 7]) (by kernel_rfl) (by simp) ?_
                      refine AllReadyH.cons rfl (fun K hK => ?_) (AllReadyH.cons rfl (fun K hK => ?_) AllReadyH.nil)
                      · try simp only [List.getElem_toArray, List.getElem_cons_succ, List.getElem_cons_zero]
                        go_simp
                        go_at_call 11; refine (HA4.out _ _ _ HX.out).mono ?_; intro e q2b hE; obtain rfl := hE.1; obtain ⟨Fz, hX, hMv⟩ := HX.out.app2 hE; have HX := Lib.hid hX; have HPA := Lib.hid (HPA.out.app2 hMv); have HPB := Lib.hid (HPB.out.app2 hMv); have HB6b := Lib.hid (HB6b.out.app2 hMv); clear hE hX hMv
                        try go_wp2_with fail
                        refine hK.out _ _ (HS.out _ _ _ _ _ HX.out) (fun hHeld => ?_)
                        clear hK K
                        try simp only [Act.put, List.getElem_toArray, List.getElem_cons_succ, List.getElem_cons_zero, List.setIfInBounds_toArray, List.set_cons_zero, List.set_cons_succ]
                        refine wpAnyH_ready (rs := [7]) (by kernel_rfl) (by simp) ?_
                        refine AllReadyH.cons rfl (fun K hK => ?_) AllReadyH.nil
                        try simp only [List.getElem_toArray, List.getElem_cons_succ, List.getElem_cons_zero]
                        go_simp
                        refine hK.out _ _ (HS.out _ _ _ _ _ (HX.out.step ((Frm.Turn.refl [] _).alloc (.cells #[.int .i64 0, .int .i64 0] 40)))) (fun hHeld => ?_)
                        clear hK K
                        have hb := HX.out.box
                        have HPA' := HPA.out.step ((Frm.Turn.refl [] _).alloc (.cells #[.int .i64 0, .int .i64 0] 40))
                        have neHB7bHPA := Ne.symm (Nat.ne_of_lt HPA.out.lt)
                        have HPB' := HPB.out.step ((Frm.Turn.refl [] _).alloc (.cells #[.int .i64 0, .int .i64 0] 40))
                        have neHB7bHPB := Ne.symm (Nat.ne_of_lt HPB.out.lt)
                        have HB6b' := HB6b.out.step ((Frm.Turn.refl [] _).alloc (.cells #[.int .i64 0, .int .i64 0] 40))
                        have neHB7bHB6b := Ne.symm (Nat.ne_of_lt HB6b.out.lt)
                        have hx := HX.out.step ((Frm.Turn.refl [] _).alloc (.cells #[.int .i64 0, .int .i64 0] 40))
                        clear HX HPA HPB HB6b
                        generalize World.alloc q2b (.cells #[.int .i64 0, .int .i64 0] 40) = z7b at hx hb hHeld HPA' HPB' HB6b' ⊢
                        have HX := Lib.hid hx
                        have HB7b := Lib.hid hb
                        have HPA := Lib.hid HPA'
                        have HNeHB7bHPA := Lib.hid neHB7bHPA
                        have HPB := Lib.hid HPB'
                        have HNeHB7bHPB := Lib.hid neHB7bHPB
                        have HB6b := Lib.hid HB6b'
                        have HNeHB7bHB6b := Lib.hid neHB7bHB6b
                        clear hx hb HPA' neHB7bHPA HPB' neHB7bHPB HB6b' neHB7bHB6b
                        try simp only [Act.put, List.getElem_toArray, List.getElem_cons_succ, List.getElem_cons_zero, List.setIfInBounds_toArray, List.set_cons_zero, List.set_cons_succ]
                        have lz := HB6b.out.lt
                        obtain ⟨⟨z0, z1⟩, z2, z3⟩ := blk2 HB6b.out.blk
                        refine wpAnyH_ready (rs := [8]) (by kernel_rfl) (by simp) ?_
                        refine AllReadyH.cons rfl (fun K hK => ?_) AllReadyH.nil
                        try simp only [List.getElem_toArray, List.getElem_cons_succ, List.getElem_cons_zero]
                        go_simp
                        refine hK.out _ _ (HS.out _ _ _ _ _ (HX.out.put HB6b.out (.int .i64 u1) (.int .i64 v1))) (fun hHeld => ?_)
                        clear hK K z0 z1 z2 z3 lz
                        have hb := HB6b.out.put u1 v1
                        have hx := HX.out.put HB6b.out (.int .i64 u1) (.int .i64 v1)
                        have HPA' := HPA.out.other (Ne.symm HNeHB6bHPA.out) (.int .i64 u1) (.int .i64 v1)
                        have HPB' := HPB.out.other (Ne.symm HNeHB6bHPB.out) (.int .i64 u1) (.int .i64 v1)
                        have HB7b' := HB7b.out.other HNeHB7bHB6b.out (.int .i64 u1) (.int .i64 v1)
                        clear HX HB6b HPA HPB HB7b
                        generalize World.setCell (World.setCell z7b ⟨q1b.heap.size, 0, none⟩ (.int .i64 u1)) ⟨q1b.heap.size, 1, none⟩ (.int .i64 v1) = s8b at hx hb hHeld HPA' HPB' HB7b' ⊢
                        have HX := Lib.hid hx
                        have HB6b := Lib.hid hb
                        have HPA := Lib.hid HPA'
                        have HPB := Lib.hid HPB'
                        have HB7b := Lib.hid HB7b'
                        clear hx hb HPA' HPB' HB7b'
                        try simp only [Act.put, List.getElem_toArray, List.getElem_cons_succ, List.getElem_cons_zero, List.setIfInBounds_toArray, List.set_cons_zero, List.set_cons_succ]
                        have lz := HB7b.out.lt
                        obtain ⟨⟨z0, z1⟩, z2, z3⟩ := blk2 HB7b.out.blk
                        refine wpAnyH_ready (rs := [9]) (by kernel_rfl) (by simp) ?_
                        refine AllReadyH.cons rfl (fun K hK => ?_) AllReadyH.nil
                        try simp only [List.getElem_toArray, List.getElem_cons_succ, List.getElem_cons_zero]
                        go_simp
                        refine hK.out _ _ (HS.out _ _ _ _ _ (HX.out.put HB7b.out (.int .i64 x1) (.int .i64 y1))) (fun hHeld => ?_)
                        clear hK K z0 z1 z2 z3 lz
                        have hb := HB7b.out.put x1 y1
                        have hx := HX.out.put HB7b.out (.int .i64 x1) (.int .i64 y1)
                        have HPA' := HPA.out.other (Ne.symm HNeHB7bHPA.out) (.int .i64 x1) (.int .i64 y1)
                        have HPB' := HPB.out.other (Ne.symm HNeHB7bHPB.out) (.int .i64 x1) (.int .i64 y1)
                        have HB6b' := HB6b.out.other (Ne.symm HNeHB7bHB6b.out) (.int .i64 x1) (.int .i64 y1)
                        clear HX HB7b HPA HPB HB6b
                        generalize World.setCell (World.setCell s8b ⟨q2b.heap.size, 0, none⟩ (.int .i64 x1)) ⟨q2b.heap.size, 1, none⟩ (.int .i64 y1) = s9b at hx hb hHeld HPA' HPB' HB6b' ⊢
                        have HX := Lib.hid hx
                        have HB7b := Lib.hid hb
                        have HPA := Lib.hid HPA'
                        have HPB := Lib.hid HPB'
                        have HB6b := Lib.hid HB6b'
                        clear hx hb HPA' HPB' HB6b'
                        try simp only [Act.put, List.getElem_toArray, List.getElem_cons_succ, List.getElem_cons_zero, List.setIfInBounds_toArray, List.set_cons_zero, List.set_cons_succ]
                        refine wpAnyH_done (by kernel_rfl) ?_ _
                        go_wp2_with fail
                        go_meet
                        case rel => exact ⟨_, _, _, _, rfl, rfl, HX.out, HPA.out, HPB.out, HB6b.out, HB7b.out⟩
                      · try simp only [List.getElem_toArray, List.getElem_cons_succ, List.getElem_cons_zero]
                        go_simp
                        refine hK.out _ _ (HS.out _ _ _ _ _ (HX.out.step ((Frm.Turn.refl [] _).alloc (.cells #[.int .i64 0, .int .i64 0] 40)))) (fun hHeld => ?_)
                        clear hK K
                        have hb := HX.out.box
                        have HPA' := HPA.out.step ((Frm.Turn.refl [] _).alloc (.cells #[.int .i64 0, .int .i64 0] 40))
                        have neHB7bHPA := Ne.symm (Nat.ne_of_lt HPA.out.lt)
                        have HPB' := HPB.out.step ((Frm.Turn.refl [] _).alloc (.cells #[.int .i64 0, .int .i64 0] 40))
                        have neHB7bHPB := Ne.symm (Nat.ne_of_lt HPB.out.lt)
                        have HB6b' := HB6b.out.step ((Frm.Turn.refl [] _).alloc (.cells #[.int .i64 0, .int .i64 0] 40))
                        have neHB7bHB6b := Ne.symm (Nat.ne_of_lt HB6b.out.lt)
                        have hx := HX.out.step ((Frm.Turn.refl [] _).alloc (.cells #[.int .i64 0, .int .i64 0] 40))
                        clear HX HPA HPB HB6b
                        generalize World.alloc z6b (.cells #[.int .i64 0, .int .i64 0] 40) = z7b at hx hb hHeld HPA' HPB' HB6b' ⊢
                        have HX := Lib.hid hx
                        have HB7b := Lib.hid hb
                        have HPA := Lib.hid HPA'
                        have HNeHB7bHPA := Lib.hid neHB7bHPA
                        have HPB := Lib.hid HPB'
                        have HNeHB7bHPB := Lib.hid neHB7bHPB
                        have HB6b := Lib.hid HB6b'
                        have HNeHB7bHB6b := Lib.hid neHB7bHB6b
                        clear hx hb HPA' neHB7bHPA HPB' neHB7bHPB HB6b' neHB7bHB6b
                        try simp only [Act.put, List.getElem_toArray, List.getElem_cons_succ, List.getElem_cons_zero, List.setIfInBounds_toArray, List.set_cons_zero, List.set_cons_succ]
                        refine wpAnyH_ready (rs := [5]) (by kernel_rfl) (by simp) ?_
                        refine AllReadyH.cons rfl (fun K hK => ?_) AllReadyH.nil
                        try simp only [List.getElem_toArray, List.getElem_cons_succ, List.getElem_cons_zero]
                        go_simp
                        go_at_call 11; refine (HA4.out _ _ _ HX.out).mono ?_; intro e q2b hE; obtain rfl := hE.1; obtain ⟨Fz, hX, hMv⟩ := HX.out.app2 hE; have HX := Lib.hid hX; have HPA := Lib.hid (HPA.out.app2 hMv); have HPB := Lib.hid (HPB.out.app2 hMv); have HB6b := Lib.hid (HB6b.out.app2 hMv); have HB7b := Lib.hid (HB7b.out.app2 hMv); clear hE hX hMv
                        try go_wp2_with fail
                        refine hK.out _ _ (HS.out _ _ _ _ _ HX.out) (fun hHeld => ?_)
                        clear hK K
                        try simp only [Act.put, List.getElem_toArray, List.getElem_cons_succ, List.getElem_cons_zero, List.setIfInBounds_toArray, List.set_cons_zero, List.set_cons_succ]
                        have lz := HB6b.out.lt
                        obtain ⟨⟨z0, z1⟩, z2, z3⟩ := blk2 HB6b.out.blk
                        refine wpAnyH_ready (rs := [8]) (by kernel_rfl) (by simp) ?_
                        refine AllReadyH.cons rfl (fun K hK => ?_) AllReadyH.nil
                        try simp only [List.getElem_toArray, List.getElem_cons_succ, List.getElem_cons_zero]
                        go_simp
                        refine hK.out _ _ (HS.out _ _ _ _ _ (HX.out.put HB6b.out (.int .i64 u1) (.int .i64 v1))) (fun hHeld => ?_)
                        clear hK K z0 z1 z2 z3 lz
                        have hb := HB6b.out.put u1 v1
                        have hx := HX.out.put HB6b.out (.int .i64 u1) (.int .i64 v1)
                        have HPA' := HPA.out.other (Ne.symm HNeHB6bHPA.out) (.int .i64 u1) (.int .i64 v1)
                        have HPB' := HPB.out.other (Ne.symm HNeHB6bHPB.out) (.int .i64 u1) (.int .i64 v1)
                        have HB7b' := HB7b.out.other HNeHB7bHB6b.out (.int .i64 u1) (.int .i64 v1)
                        clear HX HB6b HPA HPB HB7b
                        generalize World.setCell (World.setCell q2b ⟨q1b.heap.size, 0, none⟩ (.int .i64 u1)) ⟨q1b.heap.size, 1, none⟩ (.int .i64 v1) = s8b at hx hb hHeld HPA' HPB' HB7b' ⊢
                        have HX := Lib.hid hx
                        have HB6b := Lib.hid hb
                        have HPA := Lib.hid HPA'
                        have HPB := Lib.hid HPB'
                        have HB7b := Lib.hid HB7b'
                        clear hx hb HPA' HPB' HB7b'
                        try simp only [Act.put, List.getElem_toArray, List.getElem_cons_succ, List.getElem_cons_zero, List.setIfInBounds_toArray, List.set_cons_zero, List.set_cons_succ]
                        have lz := HB7b.out.lt
                        obtain ⟨⟨z0, z1⟩, z2, z3⟩ := blk2 HB7b.out.blk
                        refine wpAnyH_ready (rs := [9]) (by kernel_rfl) (by simp) ?_
                        refine AllReadyH.cons rfl (fun K hK => ?_) AllReadyH.nil
                        try simp only [List.getElem_toArray, List.getElem_cons_succ, List.getElem_cons_zero]
                        go_simp
                        refine hK.out _ _ (HS.out _ _ _ _ _ (HX.out.put HB7b.out (.int .i64 x1) (.int .i64 y1))) (fun hHeld => ?_)
                        clear hK K z0 z1 z2 z3 lz
                        have hb := HB7b.out.put x1 y1
                        have hx := HX.out.put HB7b.out (.int .i64 x1) (.int .i64 y1)
                        have HPA' := HPA.out.other (Ne.symm HNeHB7bHPA.out) (.int .i64 x1) (.int .i64 y1)
                        have HPB' := HPB.out.other (Ne.symm HNeHB7bHPB.out) (.int .i64 x1) (.int .i64 y1)
                        have HB6b' := HB6b.out.other (Ne.symm HNeHB7bHB6b.out) (.int .i64 x1) (.int .i64 y1)
                        clear HX HB7b HPA HPB HB6b
                        generalize World.setCell (World.setCell s8b ⟨z6b.heap.size, 0, none⟩ (.int .i64 x1)) ⟨z6b.heap.size, 1, none⟩ (.int .i64 y1) = s9b at hx hb hHeld HPA' HPB' HB6b' ⊢
                        have HX := Lib.hid hx
                        have HB7b := Lib.hid hb
                        have HPA := Lib.hid HPA'
                        have HPB := Lib.hid HPB'
                        have HB6b := Lib.hid HB6b'
                        clear hx hb HPA' HPB' HB6b'
                        try simp only [Act.put, List.getElem_toArray, List.getElem_cons_succ, List.getElem_cons_zero, List.setIfInBounds_toArray, List.set_cons_zero, List.set_cons_succ]
                        refine wpAnyH_done (by kernel_rfl) ?_ _
                        go_wp2_with fail
                        go_meet
                        case rel => exact ⟨_, _, _, _, rfl, rfl, HX.out, HPA.out, HPB.out, HB6b.out, HB7b.out⟩
                    · try simp only [List.getElem_toArray, List.getElem_cons_succ, List.getElem_cons_zero]
                      go_simp
                      refine hK.out _ _ (HS.out _ _ _ _ _ (HX.out.step ((Frm.Turn.refl [] _).alloc (.cells #[.int .i64 0, .int .i64 0] 40)))) (fun hHeld => ?_)
                      clear hK K
                      have hb := HX.out.box
                      have HPA' := HPA.out.step ((Frm.Turn.refl [] _).alloc (.cells #[.int .i64 0, .int .i64 0] 40))
                      have neHB7bHPA := Ne.symm (Nat.ne_of_lt HPA.out.lt)
                      have HPB' := HPB.out.step ((Frm.Turn.refl [] _).alloc (.cells #[.int .i64 0, .int .i64 0] 40))
                      have neHB7bHPB := Ne.symm (Nat.ne_of_lt HPB.out.lt)
                      have hx := HX.out.step ((Frm.Turn.refl [] _).alloc (.cells #[.int .i64 0, .int .i64 0] 40))
                      clear HX HPA HPB
                      generalize World.alloc q1b (.cells #[.int .i64 0, .int .i64 0] 40) = z7b at hx hb hHeld HPA' HPB' ⊢
                      have HX := Lib.hid hx
                      have HB7b := Lib.hid hb
                      have HPA := Lib.hid HPA'
                      have HNeHB7bHPA := Lib.hid neHB7bHPA
                      have HPB := Lib.hid HPB'
                      have HNeHB7bHPB := Lib.hid neHB7bHPB
                      clear hx hb HPA' neHB7bHPA HPB' neHB7bHPB
                      try simp only [Act.put, List.getElem_toArray, List.getElem_cons_succ, List.getElem_cons_zero, List.setIfInBounds_toArray, List.set_cons_zero, List.set_cons_succ]
                      refine wpAnyH_ready (rs := [5, 6]) (by kernel_rfl) (by simp) ?_
                      refine AllReadyH.cons rfl (fun K hK => ?_) (AllReadyH.cons rfl (fun K hK => ?_) AllReadyH.nil)
                      · try simp only [List.getElem_toArray, List.getElem_cons_succ, List.getElem_cons_zero]
                        go_simp
                        go_at_call 11; refine (HA4.out _ _ _ HX.out).mono ?_; intro e q2b hE; obtain rfl := hE.1; obtain ⟨Fz, hX, hMv⟩ := HX.out.app2 hE; have HX := Lib.hid hX; have HPA := Lib.hid (HPA.out.app2 hMv); have HPB := Lib.hid (HPB.out.app2 hMv); have HB7b := Lib.hid (HB7b.out.app2 hMv); clear hE hX hMv
                        try go_wp2_with fail
                        refine hK.out _ _ (HS.out _ _ _ _ _ HX.out) (fun hHeld => ?_)
                        clear hK K
                        try simp only [Act.put, List.getElem_toArray, List.getElem_cons_succ, List.getElem_cons_zero, List.setIfInBounds_toArray, List.set_cons_zero, List.set_cons_succ]
                        refine wpAnyH_ready (rs := [6]) (by kernel_rfl) (by simp) ?_
                        refine AllReadyH.cons rfl (fun K hK => ?_) AllReadyH.nil
                        try simp only [List.getElem_toArray, List.getElem_cons_succ, List.getElem_cons_zero]
                        go_simp
                        refine hK.out _ _ (HS.out _ _ _ _ _ (HX.out.step ((Frm.Turn.refl [] _).alloc (.cells #[.int .i64 0, .int .i64 0] 40)))) (fun hHeld => ?_)
                        clear hK K
                        have hb := HX.out.box
                        have HPA' := HPA.out.step ((Frm.Turn.refl [] _).alloc (.cells #[.int .i64 0, .int .i64 0] 40))
                        have neHB6bHPA := Ne.symm (Nat.ne_of_lt HPA.out.lt)
                        have HPB' := HPB.out.step ((Frm.Turn.refl [] _).alloc (.cells #[.int .i64 0, .int .i64 0] 40))
                        have neHB6bHPB := Ne.symm (Nat.ne_of_lt HPB.out.lt)
                        have HB7b' := HB7b.out.step ((Frm.Turn.refl [] _).alloc (.cells #[.int .i64 0, .int .i64 0] 40))
                        have neHB6bHB7b := Ne.symm (Nat.ne_of_lt HB7b.out.lt)
                        have hx := HX.out.step ((Frm.Turn.refl [] _).alloc (.cells #[.int .i64 0, .int .i64 0] 40))
                        clear HX HPA HPB HB7b
                        generalize World.alloc q2b (.cells #[.int .i64 0, .int .i64 0] 40) = z6b at hx hb hHeld HPA' HPB' HB7b' ⊢
                        have HX := Lib.hid hx
                        have HB6b := Lib.hid hb
                        have HPA := Lib.hid HPA'
                        have HNeHB6bHPA := Lib.hid neHB6bHPA
                        have HPB := Lib.hid HPB'
                        have HNeHB6bHPB := Lib.hid neHB6bHPB
                        have HB7b := Lib.hid HB7b'
                        have HNeHB6bHB7b := Lib.hid neHB6bHB7b
                        clear hx hb HPA' neHB6bHPA HPB' neHB6bHPB HB7b' neHB6bHB7b
                        try simp only [Act.put, List.getElem_toArray, List.getElem_cons_succ, List.getElem_cons_zero, List.setIfInBounds_toArray, List.set_cons_zero, List.set_cons_succ]
                        have lz := HB6b.out.lt
                        obtain ⟨⟨z0, z1⟩, z2, z3⟩ := blk2 HB6b.out.blk
                        refine wpAnyH_ready (rs := [8]) (by kernel_rfl) (by simp) ?_
                        refine AllReadyH.cons rfl (fun K hK => ?_) AllReadyH.nil
                        try simp only [List.getElem_toArray, List.getElem_cons_succ, List.getElem_cons_zero]
                        go_simp
                        refine hK.out _ _ (HS.out _ _ _ _ _ (HX.out.put HB6b.out (.int .i64 u1) (.int .i64 v1))) (fun hHeld => ?_)
                        clear hK K z0 z1 z2 z3 lz
                        have hb := HB6b.out.put u1 v1
                        have hx := HX.out.put HB6b.out (.int .i64 u1) (.int .i64 v1)
                        have HPA' := HPA.out.other (Ne.symm HNeHB6bHPA.out) (.int .i64 u1) (.int .i64 v1)
                        have HPB' := HPB.out.other (Ne.symm HNeHB6bHPB.out) (.int .i64 u1) (.int .i64 v1)
                        have HB7b' := HB7b.out.other (Ne.symm HNeHB6bHB7b.out) (.int .i64 u1) (.int .i64 v1)
                        clear HX HB6b HPA HPB HB7b
                        generalize World.setCell (World.setCell z6b ⟨q2b.heap.size, 0, none⟩ (.int .i64 u1)) ⟨q2b.heap.size, 1, none⟩ (.int .i64 v1) = s8b at hx hb hHeld HPA' HPB' HB7b' ⊢
                        have HX := Lib.hid hx
                        have HB6b := Lib.hid hb
                        have HPA := Lib.hid HPA'
                        have HPB := Lib.hid HPB'
                        have HB7b := Lib.hid HB7b'
                        clear hx hb HPA' HPB' HB7b'
                        try simp only [Act.put, List.getElem_toArray, List.getElem_cons_succ, List.getElem_cons_zero, List.setIfInBounds_toArray, List.set_cons_zero, List.set_cons_succ]
                        have lz := HB7b.out.lt
                        obtain ⟨⟨z0, z1⟩, z2, z3⟩ := blk2 HB7b.out.blk
                        refine wpAnyH_ready (rs := [9]) (by kernel_rfl) (by simp) ?_
                        refine AllReadyH.cons rfl (fun K hK => ?_) AllReadyH.nil
                        try simp only [List.getElem_toArray, List.getElem_cons_succ, List.getElem_cons_zero]
                        go_simp
                        refine hK.out _ _ (HS.out _ _ _ _ _ (HX.out.put HB7b.out (.int .i64 x1) (.int .i64 y1))) (fun hHeld => ?_)
                        clear hK K z0 z1 z2 z3 lz
                        have hb := HB7b.out.put x1 y1
                        have hx := HX.out.put HB7b.out (.int .i64 x1) (.int .i64 y1)
                        have HPA' := HPA.out.other (Ne.symm HNeHB7bHPA.out) (.int .i64 x1) (.int .i64 y1)
                        have HPB' := HPB.out.other (Ne.symm HNeHB7bHPB.out) (.int .i64 x1) (.int .i64 y1)
                        have HB6b' := HB6b.out.other HNeHB6bHB7b.out (.int .i64 x1) (.int .i64 y1)
                        clear HX HB7b HPA HPB HB6b
                        generalize World.setCell (World.setCell s8b ⟨q1b.heap.size, 0, none⟩ (.int .i64 x1)) ⟨q1b.heap.size, 1, none⟩ (.int .i64 y1) = s9b at hx hb hHeld HPA' HPB' HB6b' ⊢
                        have HX := Lib.hid hx
                        have HB7b := Lib.hid hb
                        have HPA := Lib.hid HPA'
                        have HPB := Lib.hid HPB'
                        have HB6b := Lib.hid HB6b'
                        clear hx hb HPA' HPB' HB6b'
                        try simp only [Act.put, List.getElem_toArray, List.getElem_cons_succ, List.getElem_cons_zero, List.setIfInBounds_toArray, List.set_cons_zero, List.set_cons_succ]
                        refine wpAnyH_done (by kernel_rfl) ?_ _
                        go_wp2_with fail
                        go_meet
                        case rel => exact ⟨_, _, _, _, rfl, rfl, HX.out, HPA.out, HPB.out, HB6b.out, HB7b.out⟩
                      · try simp only [List.getElem_toArray, List.getElem_cons_succ, List.getElem_cons_zero]
                        go_simp
                        refine hK.out _ _ (HS.out _ _ _ _ _ (HX.out.step ((Frm.Turn.refl [] _).alloc (.cells #[.int .i64 0, .int .i64 0] 40)))) (fun hHeld => ?_)
                        clear hK K
                        have hb := HX.out.box
                        have HPA' := HPA.out.step ((Frm.Turn.refl [] _).alloc (.cells #[.int .i64 0, .int .i64 0] 40))
                        have neHB6bHPA := Ne.symm (Nat.ne_of_lt HPA.out.lt)
                        have HPB' := HPB.out.step ((Frm.Turn.refl [] _).alloc (.cells #[.int .i64 0, .int .i64 0] 40))
                        have neHB6bHPB := Ne.symm (Nat.ne_of_lt HPB.out.lt)
                        have HB7b' := HB7b.out.step ((Frm.Turn.refl [] _).alloc (.cells #[.int .i64 0, .int .i64 0] 40))
                        have neHB6bHB7b := Ne.symm (Nat.ne_of_lt HB7b.out.lt)
                        have hx := HX.out.step ((Frm.Turn.refl [] _).alloc (.cells #[.int .i64 0, .int .i64 0] 40))
                        clear HX HPA HPB HB7b
                        generalize World.alloc z7b (.cells #[.int .i64 0, .int .i64 0] 40) = z6b at hx hb hHeld HPA' HPB' HB7b' ⊢
                        have HX := Lib.hid hx
                        have HB6b := Lib.hid hb
                        have HPA := Lib.hid HPA'
                        have HNeHB6bHPA := Lib.hid neHB6bHPA
                        have HPB := Lib.hid HPB'
                        have HNeHB6bHPB := Lib.hid neHB6bHPB
                        have HB7b := Lib.hid HB7b'
                        have HNeHB6bHB7b := Lib.hid neHB6bHB7b
                        clear hx hb HPA' neHB6bHPA HPB' neHB6bHPB HB7b' neHB6bHB7b
                        try simp only [Act.put, List.getElem_toArray, List.getElem_cons_succ, List.getElem_cons_zero, List.setIfInBounds_toArray, List.set_cons_zero, List.set_cons_succ]
                        refine wpAnyH_ready (rs := [5]) (by kernel_rfl) (by simp) ?_
                        refine AllReadyH.cons rfl (fun K hK => ?_) AllReadyH.nil
                        try simp only [List.getElem_toArray, List.getElem_cons_succ, List.getElem_cons_zero]
                        go_simp
                        go_at_call 11; refine (HA4.out _ _ _ HX.out).mono ?_; intro e q2b hE; obtain rfl := hE.1; obtain ⟨Fz, hX, hMv⟩ := HX.out.app2 hE; have HX := Lib.hid hX; have HPA := Lib.hid (HPA.out.app2 hMv); have HPB := Lib.hid (HPB.out.app2 hMv); have HB7b := Lib.hid (HB7b.out.app2 hMv); have HB6b := Lib.hid (HB6b.out.app2 hMv); clear hE hX hMv
                        try go_wp2_with fail
                        refine hK.out _ _ (HS.out _ _ _ _ _ HX.out) (fun hHeld => ?_)
                        clear hK K
                        try simp only [Act.put, List.getElem_toArray, List.getElem_cons_succ, List.getElem_cons_zero, List.setIfInBounds_toArray, List.set_cons_zero, List.set_cons_succ]
                        have lz := HB6b.out.lt
                        obtain ⟨⟨z0, z1⟩, z2, z3⟩ := blk2 HB6b.out.blk
                        refine wpAnyH_ready (rs := [8]) (by kernel_rfl) (by simp) ?_
                        refine AllReadyH.cons rfl (fun K hK => ?_) AllReadyH.nil
                        try simp only [List.getElem_toArray, List.getElem_cons_succ, List.getElem_cons_zero]
                        go_simp
                        refine hK.out _ _ (HS.out _ _ _ _ _ (HX.out.put HB6b.out (.int .i64 u1) (.int .i64 v1))) (fun hHeld => ?_)
                        clear hK K z0 z1 z2 z3 lz
                        have hb := HB6b.out.put u1 v1
                        have hx := HX.out.put HB6b.out (.int .i64 u1) (.int .i64 v1)
                        have HPA' := HPA.out.other (Ne.symm HNeHB6bHPA.out) (.int .i64 u1) (.int .i64 v1)
                        have HPB' := HPB.out.other (Ne.symm HNeHB6bHPB.out) (.int .i64 u1) (.int .i64 v1)
                        have HB7b' := HB7b.out.other (Ne.symm HNeHB6bHB7b.out) (.int .i64 u1) (.int .i64 v1)
                        clear HX HB6b HPA HPB HB7b
                        generalize World.setCell (World.setCell q2b ⟨z7b.heap.size, 0, none⟩ (.int .i64 u1)) ⟨z7b.heap.size, 1, none⟩ (.int .i64 v1) = s8b at hx hb hHeld HPA' HPB' HB7b' ⊢
                        have HX := Lib.hid hx
                        have HB6b := Lib.hid hb
                        have HPA := Lib.hid HPA'
                        have HPB := Lib.hid HPB'
                        have HB7b := Lib.hid HB7b'
                        clear hx hb HPA' HPB' HB7b'
                        try simp only [Act.put, List.getElem_toArray, List.getElem_cons_succ, List.getElem_cons_zero, List.setIfInBounds_toArray, List.set_cons_zero, List.set_cons_succ]
                        have lz := HB7b.out.lt
                        obtain ⟨⟨z0, z1⟩, z2, z3⟩ := blk2 HB7b.out.blk
                        refine wpAnyH_ready (rs := [9]) (by kernel_rfl) (by simp) ?_
                        refine AllReadyH.cons rfl (fun K hK => ?_) AllReadyH.nil
                        try simp only [List.getElem_toArray, List.getElem_cons_succ, List.getElem_cons_zero]
                        go_simp
                        refine hK.out _ _ (HS.out _ _ _ _ _ (HX.out.put HB7b.out (.int .i64 x1) (.int .i64 y1))) (fun hHeld => ?_)
                        clear hK K z0 z1 z2 z3 lz
                        have hb := HB7b.out.put x1 y1
                        have hx := HX.out.put HB7b.out (.int .i64 x1) (.int .i64 y1)
                        have HPA' := HPA.out.other (Ne.symm HNeHB7bHPA.out) (.int .i64 x1) (.int .i64 y1)
                        have HPB' := HPB.out.other (Ne.symm HNeHB7bHPB.out) (.int .i64 x1) (.int .i64 y1)
                        have HB6b' := HB6b.out.other HNeHB6bHB7b.out (.int .i64 x1) (.int .i64 y1)
                        clear HX HB7b HPA HPB HB6b
                        generalize World.setCell (World.setCell s8b ⟨q1b.heap.size, 0, none⟩ (.int .i64 x1)) ⟨q1b.heap.size, 1, none⟩ (.int .i64 y1) = s9b at hx hb hHeld HPA' HPB' HB6b' ⊢
                        have HX := Lib.hid hx
                        have HB7b := Lib.hid hb
                        have HPA := Lib.hid HPA'
                        have HPB := Lib.hid HPB'
                        have HB6b := Lib.hid HB6b'
                        clear hx hb HPA' HPB' HB6b'
                        try simp only [Act.put, List.getElem_toArray, List.getElem_cons_succ, List.getElem_cons_zero, List.setIfInBounds_toArray, List.set_cons_zero, List.set_cons_succ]
                        refine wpAnyH_done (by kernel_rfl) ?_ _
                        go_wp2_with fail
                        go_meet
                        case rel => exact ⟨_, _, _, _, rfl, rfl, HX.out, HPA.out, HPB.out, HB6b.out, HB7b.out⟩
                  · try simp only [List.getElem_toArray, List.getElem_cons_succ, List.getElem_cons_zero]
                    go_simp
                    refine hK.out _ _ (HS.out _ _ _ _ _ (HX.out.step ((Frm.Turn.refl [] _).alloc (.cells #[.int .i64 0, .int .i64 0] 40)))) (fun hHeld => ?_)
                    clear hK K
                    have hb := HX.out.box
                    have HPA' := HPA.out.step ((Frm.Turn.refl [] _).alloc (.cells #[.int .i64 0, .int .i64 0] 40))
                    have neHB6bHPA := Ne.symm (Nat.ne_of_lt HPA.out.lt)
                    have HPB' := HPB.out.step ((Frm.Turn.refl [] _).alloc (.cells #[.int .i64 0, .int .i64 0] 40))
                    have neHB6bHPB := Ne.symm (Nat.ne_of_lt HPB.out.lt)
                    have hx := HX.out.step ((Frm.Turn.refl [] _).alloc (.cells #[.int .i64 0, .int .i64 0] 40))
                    clear HX HPA HPB
                    generalize World.alloc wdb (.cells #[.int .i64 0, .int .i64 0] 40) = z6b at hx hb hHeld HPA' HPB' ⊢
                    have HX := Lib.hid hx
                    have HB6b := Lib.hid hb
                    have HPA := Lib.hid HPA'
                    have HNeHB6bHPA := Lib.hid neHB6bHPA
                    have HPB := Lib.hid HPB'
                    have HNeHB6bHPB := Lib.hid neHB6bHPB
                    clear hx hb HPA' neHB6bHPA HPB' neHB6bHPB
                    try simp only [Act.put, List.getElem_toArray, List.getElem_cons_succ, List.getElem_cons_zero, List.setIfInBounds_toArray, List.set_cons_zero, List.set_cons_succ]
                    refine wpAnyH_ready (rs := [2, 7]) (by kernel_rfl) (by simp) ?_
                    refine AllReadyH.cons rfl (fun K hK => ?_) (AllReadyH.cons rfl (fun K hK => ?_) AllReadyH.nil)
                    · try simp only [List.getElem_toArray, List.getElem_cons_succ, List.getElem_cons_zero]
                      go_simp
                      go_at_call 11; refine (HA3.out _ _ _ HX.out).mono ?_; intro e q1b hE; obtain rfl := hE.1; obtain ⟨Fz, hX, hMv⟩ := HX.out.app2 hE; have HX := Lib.hid hX; have HPA := Lib.hid (HPA.out.app2 hMv); have HPB := Lib.hid (HPB.out.app2 hMv); have HB6b := Lib.hid (HB6b.out.app2 hMv); clear hE hX hMv
                      try go_wp2_with fail
                      refine hK.out _ _ (HS.out _ _ _ _ _ HX.out) (fun hHeld => ?_)
                      clear hK K
                      try simp only [Act.put, List.getElem_toArray, List.getElem_cons_succ, List.getElem_cons_zero, List.setIfInBounds_toArray, List.set_cons_zero, List.set_cons_succ]
                      refine wpAnyH_ready (rs := [5, 7]) (by kernel_rfl) (by simp) ?_
                      refine AllReadyH.cons rfl (fun K hK => ?_) (AllReadyH.cons rfl (fun K hK => ?_) AllReadyH.nil)
                      · try simp only [List.getElem_toArray, List.getElem_cons_succ, List.getElem_cons_zero]
                        go_simp
                        go_at_call 11; refine (HA4.out _ _ _ HX.out).mono ?_; intro e q2b hE; obtain rfl := hE.1; obtain ⟨Fz, hX, hMv⟩ := HX.out.app2 hE; have HX := Lib.hid hX; have HPA := Lib.hid (HPA.out.app2 hMv); have HPB := Lib.hid (HPB.out.app2 hMv); have HB6b := Lib.hid (HB6b.out.app2 hMv); clear hE hX hMv
                        try go_wp2_with fail
                        refine hK.out _ _ (HS.out _ _ _ _ _ HX.out) (fun hHeld => ?_)
                        clear hK K
                        try simp only [Act.put, List.getElem_toArray, List.getElem_cons_succ, List.getElem_cons_zero, List.setIfInBounds_toArray, List.set_cons_zero, List.set_cons_succ]
                        refine wpAnyH_ready (rs := [7]) (by kernel_rfl) (by simp) ?_
                        refine AllReadyH.cons rfl (fun K hK => ?_) AllReadyH.nil
                        try simp only [List.getElem_toArray, List.getElem_cons_succ, List.getElem_cons_zero]
                        go_simp
                        refine hK.out _ _ (HS.out _ _ _ _ _ (HX.out.step ((Frm.Turn.refl [] _).alloc (.cells #[.int .i64 0, .int .i64 0] 40)))) (fun hHeld => ?_)
                        clear hK K
                        have hb := HX.out.box
                        have HPA' := HPA.out.step ((Frm.Turn.refl [] _).alloc (.cells #[.int .i64 0, .int .i64 0] 40))
                        have neHB7bHPA := Ne.symm (Nat.ne_of_lt HPA.out.lt)
                        have HPB' := HPB.out.step ((Frm.Turn.refl [] _).alloc (.cells #[.int .i64 0, .int .i64 0] 40))
                        have neHB7bHPB := Ne.symm (Nat.ne_of_lt HPB.out.lt)
                        have HB6b' := HB6b.out.step ((Frm.Turn.refl [] _).alloc (.cells #[.int .i64 0, .int .i64 0] 40))
                        have neHB7bHB6b := Ne.symm (Nat.ne_of_lt HB6b.out.lt)
                        have hx := HX.out.step ((Frm.Turn.refl [] _).alloc (.cells #[.int .i64 0, .int .i64 0] 40))
                        clear HX HPA HPB HB6b
                        generalize World.alloc q2b (.cells #[.int .i64 0, .int .i64 0] 40) = z7b at hx hb hHeld HPA' HPB' HB6b' ⊢
                        have HX := Lib.hid hx
                        have HB7b := Lib.hid hb
                        have HPA := Lib.hid HPA'
                        have HNeHB7bHPA := Lib.hid neHB7bHPA
                        have HPB := Lib.hid HPB'
                        have HNeHB7bHPB := Lib.hid neHB7bHPB
                        have HB6b := Lib.hid HB6b'
                        have HNeHB7bHB6b := Lib.hid neHB7bHB6b
                        clear hx hb HPA' neHB7bHPA HPB' neHB7bHPB HB6b' neHB7bHB6b
                        try simp only [Act.put, List.getElem_toArray, List.getElem_cons_succ, List.getElem_cons_zero, List.setIfInBounds_toArray, List.set_cons_zero, List.set_cons_succ]
                        have lz := HB6b.out.lt
                        obtain ⟨⟨z0, z1⟩, z2, z3⟩ := blk2 HB6b.out.blk
                        refine wpAnyH_ready (rs := [8]) (by kernel_rfl) (by simp) ?_
                        refine AllReadyH.cons rfl (fun K hK => ?_) AllReadyH.nil
                        try simp only [List.getElem_toArray, List.getElem_cons_succ, List.getElem_cons_zero]
                        go_simp
                        refine hK.out _ _ (HS.out _ _ _ _ _ (HX.out.put HB6b.out (.int .i64 u1) (.int .i64 v1))) (fun hHeld => ?_)
                        clear hK K z0 z1 z2 z3 lz
                        have hb := HB6b.out.put u1 v1
                        have hx := HX.out.put HB6b.out (.int .i64 u1) (.int .i64 v1)
                        have HPA' := HPA.out.other (Ne.symm HNeHB6bHPA.out) (.int .i64 u1) (.int .i64 v1)
                        have HPB' := HPB.out.other (Ne.symm HNeHB6bHPB.out) (.int .i64 u1) (.int .i64 v1)
                        have HB7b' := HB7b.out.other HNeHB7bHB6b.out (.int .i64 u1) (.int .i64 v1)
                        clear HX HB6b HPA HPB HB7b
                        generalize World.setCell (World.setCell z7b ⟨wdb.heap.size, 0, none⟩ (.int .i64 u1)) ⟨wdb.heap.size, 1, none⟩ (.int .i64 v1) = s8b at hx hb hHeld HPA' HPB' HB7b' ⊢
                        have HX := Lib.hid hx
                        have HB6b := Lib.hid hb
                        have HPA := Lib.hid HPA'
                        have HPB := Lib.hid HPB'
                        have HB7b := Lib.hid HB7b'
                        clear hx hb HPA' HPB' HB7b'
                        try simp only [Act.put, List.getElem_toArray, List.getElem_cons_succ, List.getElem_cons_zero, List.setIfInBounds_toArray, List.set_cons_zero, List.set_cons_succ]
                        have lz := HB7b.out.lt
                        obtain ⟨⟨z0, z1⟩, z2, z3⟩ := blk2 HB7b.out.blk
                        refine wpAnyH_ready (rs := [9]) (by kernel_rfl) (by simp) ?_
                        refine AllReadyH.cons rfl (fun K hK => ?_) AllReadyH.nil
                        try simp only [List.getElem_toArray, List.getElem_cons_succ, List.getElem_cons_zero]
                        go_simp
                        refine hK.out _ _ (HS.out _ _ _ _ _ (HX.out.put HB7b.out (.int .i64 x1) (.int .i64 y1))) (fun hHeld => ?_)
                        clear hK K z0 z1 z2 z3 lz
                        have hb := HB7b.out.put x1 y1
                        have hx := HX.out.put HB7b.out (.int .i64 x1) (.int .i64 y1)
                        have HPA' := HPA.out.other (Ne.symm HNeHB7bHPA.out) (.int .i64 x1) (.int .i64 y1)
                        have HPB' := HPB.out.other (Ne.symm HNeHB7bHPB.out) (.int .i64 x1) (.int .i64 y1)
                        have HB6b' := HB6b.out.other (Ne.symm HNeHB7bHB6b.out) (.int .i64 x1) (.int .i64 y1)
                        clear HX HB7b HPA HPB HB6b
                        generalize World.setCell (World.setCell s8b ⟨q2b.heap.size, 0, none⟩ (.int .i64 x1)) ⟨q2b.heap.size, 1, none⟩ (.int .i64 y1) = s9b at hx hb hHeld HPA' HPB' HB6b' ⊢
                        have HX := Lib.hid hx
                        have HB7b := Lib.hid hb
                        have HPA := Lib.hid HPA'
                        have HPB := Lib.hid HPB'
                        have HB6b := Lib.hid HB6b'
                        clear hx hb HPA' HPB' HB6b'
                        try simp only [Act.put, List.getElem_toArray, List.getElem_cons_succ, List.getElem_cons_zero, List.setIfInBounds_toArray, List.set_cons_zero, List.set_cons_succ]
                        refine wpAnyH_done (by kernel_rfl) ?_ _
                        go_wp2_with fail
                        go_meet
                        case rel => exact ⟨_, _, _, _, rfl, rfl, HX.out, HPA.out, HPB.out, HB6b.out, HB7b.out⟩
                      · try simp only [List.getElem_toArray, List.getElem_cons_succ, List.getElem_cons_zero]
                        go_simp
                        refine hK.out _ _ (HS.out _ _ _ _ _ (HX.out.step ((Frm.Turn.refl [] _).alloc (.cells #[.int .i64 0, .int .i64 0] 40)))) (fun hHeld => ?_)
                        clear hK K
                        have hb := HX.out.box
                        have HPA' := HPA.out.step ((Frm.Turn.refl [] _).alloc (.cells #[.int .i64 0, .int .i64 0] 40))
                        have neHB7bHPA := Ne.symm (Nat.ne_of_lt HPA.out.lt)
                        have HPB' := HPB.out.step ((Frm.Turn.refl [] _).alloc (.cells #[.int .i64 0, .int .i64 0] 40))
                        have neHB7bHPB := Ne.symm (Nat.ne_of_lt HPB.out.lt)
                        have HB6b' := HB6b.out.step ((Frm.Turn.refl [] _).alloc (.cells #[.int .i64 0, .int .i64 0] 40))
                        have neHB7bHB6b := Ne.symm (Nat.ne_of_lt HB6b.out.lt)
                        have hx := HX.out.step ((Frm.Turn.refl [] _).alloc (.cells #[.int .i64 0, .int .i64 0] 40))
                        clear HX HPA HPB HB6b
                        generalize World.alloc q1b (.cells #[.int .i64 0, .int .i64 0] 40) = z7b at hx hb hHeld HPA' HPB' HB6b' ⊢
                        have HX := Lib.hid hx
                        have HB7b := Lib.hid hb
                        have HPA := Lib.hid HPA'
                        have HNeHB7bHPA := Lib.hid neHB7bHPA
                        have HPB := Lib.hid HPB'
                        have HNeHB7bHPB := Lib.hid neHB7bHPB
                        have HB6b := Lib.hid HB6b'
                        have HNeHB7bHB6b := Lib.hid neHB7bHB6b
                        clear hx hb HPA' neHB7bHPA HPB' neHB7bHPB HB6b' neHB7bHB6b
                        try simp only [Act.put, List.getElem_toArray, List.getElem_cons_succ, List.getElem_cons_zero, List.setIfInBounds_toArray, List.set_cons_zero, List.set_cons_succ]
                        refine wpAnyH_ready (rs := [5]) (by kernel_rfl) (by simp) ?_
                        refine AllReadyH.cons rfl (fun K hK => ?_) AllReadyH.nil
                        try simp only [List.getElem_toArray, List.getElem_cons_succ, List.getElem_cons_zero]
                        go_simp
                        go_at_call 11; refine (HA4.out _ _ _ HX.out).mono ?_; intro e q2b hE; obtain rfl := hE.1; obtain ⟨Fz, hX, hMv⟩ := HX.out.app2 hE; have HX := Lib.hid hX; have HPA := Lib.hid (HPA.out.app2 hMv); have HPB := Lib.hid (HPB.out.app2 hMv); have HB6b := Lib.hid (HB6b.out.app2 hMv); have HB7b := Lib.hid (HB7b.out.app2 hMv); clear hE hX hMv
                        try go_wp2_with fail
                        refine hK.out _ _ (HS.out _ _ _ _ _ HX.out) (fun hHeld => ?_)
                        clear hK K
                        try simp only [Act.put, List.getElem_toArray, List.getElem_cons_succ, List.getElem_cons_zero, List.setIfInBounds_toArray, List.set_cons_zero, List.set_cons_succ]
                        have lz := HB6b.out.lt
                        obtain ⟨⟨z0, z1⟩, z2, z3⟩ := blk2 HB6b.out.blk
                        refine wpAnyH_ready (rs := [8]) (by kernel_rfl) (by simp) ?_
                        refine AllReadyH.cons rfl (fun K hK => ?_) AllReadyH.nil
                        try simp only [List.getElem_toArray, List.getElem_cons_succ, List.getElem_cons_zero]
                        go_simp
                        refine hK.out _ _ (HS.out _ _ _ _ _ (HX.out.put HB6b.out (.int .i64 u1) (.int .i64 v1))) (fun hHeld => ?_)
                        clear hK K z0 z1 z2 z3 lz
                        have hb := HB6b.out.put u1 v1
                        have hx := HX.out.put HB6b.out (.int .i64 u1) (.int .i64 v1)
                        have HPA' := HPA.out.other (Ne.symm HNeHB6bHPA.out) (.int .i64 u1) (.int .i64 v1)
                        have HPB' := HPB.out.other (Ne.symm HNeHB6bHPB.out) (.int .i64 u1) (.int .i64 v1)
                        have HB7b' := HB7b.out.other HNeHB7bHB6b.out (.int .i64 u1) (.int .i64 v1)
                        clear HX HB6b HPA HPB HB7b
                        generalize World.setCell (World.setCell q2b ⟨wdb.heap.size, 0, none⟩ (.int .i64 u1)) ⟨wdb.heap.size, 1, none⟩ (.int .i64 v1) = s8b at hx hb hHeld HPA' HPB' HB7b' ⊢
                        have HX := Lib.hid hx
                        have HB6b := Lib.hid hb
                        have HPA := Lib.hid HPA'
                        have HPB := Lib.hid HPB'
                        have HB7b := Lib.hid HB7b'
                        clear hx hb HPA' HPB' HB7b'
                        try simp only [Act.put, List.getElem_toArray, List.getElem_cons_succ, List.getElem_cons_zero, List.setIfInBounds_toArray, List.set_cons_zero, List.set_cons_succ]
                        have lz := HB7b.out.lt
                        obtain ⟨⟨z0, z1⟩, z2, z3⟩ := blk2 HB7b.out.blk
                        refine wpAnyH_ready (rs := [9]) (by kernel_rfl) (by simp) ?_
                        refine AllReadyH.cons rfl (fun K hK => ?_) AllReadyH.nil
                        try simp only [List.getElem_toArray, List.getElem_cons_succ, List.getElem_cons_zero]
                        go_simp
                        refine hK.out _ _ (HS.out _ _ _ _ _ (HX.out.put HB7b.out (.int .i64 x1) (.int .i64 y1))) (fun hHeld => ?_)
                        clear hK K z0 z1 z2 z3 lz
                        have hb := HB7b.out.put x1 y1
                        have hx := HX.out.put HB7b.out (.int .i64 x1) (.int .i64 y1)
                        have HPA' := HPA.out.other (Ne.symm HNeHB7bHPA.out) (.int .i64 x1) (.int .i64 y1)
                        have HPB' := HPB.out.other (Ne.symm HNeHB7bHPB.out) (.int .i64 x1) (.int .i64 y1)
                        have HB6b' := HB6b.out.other (Ne.symm HNeHB7bHB6b.out) (.int .i64 x1) (.int .i64 y1)
                        clear HX HB7b HPA HPB HB6b
                        generalize World.setCell (World.setCell s8b ⟨q1b.heap.size, 0, none⟩ (.int .i64 x1)) ⟨q1b.heap.size, 1, none⟩ (.int .i64 y1) = s9b at hx hb hHeld HPA' HPB' HB6b' ⊢
                        have HX := Lib.hid hx
                        have HB7b := Lib.hid hb
                        have HPA := Lib.hid HPA'
                        have HPB := Lib.hid HPB'
                        have HB6b := Lib.hid HB6b'
                        clear hx hb HPA' HPB' HB6b'
                        try simp only [Act.put, List.getElem_toArray, List.getElem_cons_succ, List.getElem_cons_zero, List.setIfInBounds_toArray, List.set_cons_zero, List.set_cons_succ]
                        refine wpAnyH_done (by kernel_rfl) ?_ _
                        go_wp2_with fail
                        go_meet
                        case rel => exact ⟨_, _, _, _, rfl, rfl, HX.out, HPA.out, HPB.out, HB6b.out, HB7b.out⟩
                    · try simp only [List.getElem_toArray, List.getElem_cons_succ, List.getElem_cons_zero]
                      go_simp
                      refine hK.out _ _ (HS.out _ _ _ _ _ (HX.out.step ((Frm.Turn.refl [] _).alloc (.cells #[.int .i64 0, .int .i64 0] 40)))) (fun hHeld => ?_)
                      clear hK K
                      have hb := HX.out.box
                      have HPA' := HPA.out.step ((Frm.Turn.refl [] _).alloc (.cells #[.int .i64 0, .int .i64 0] 40))
                      have neHB7bHPA := Ne.symm (Nat.ne_of_lt HPA.out.lt)
                      have HPB' := HPB.out.step ((Frm.Turn.refl [] _).alloc (.cells #[.int .i64 0, .int .i64 0] 40))
                      have neHB7bHPB := Ne.symm (Nat.ne_of_lt HPB.out.lt)
                      have HB6b' := HB6b.out.step ((Frm.Turn.refl [] _).alloc (.cells #[.int .i64 0, .int .i64 0] 40))
                      have neHB7bHB6b := Ne.symm (Nat.ne_of_lt HB6b.out.lt)
                      have hx := HX.out.step ((Frm.Turn.refl [] _).alloc (.cells #[.int .i64 0, .int .i64 0] 40))
                      clear HX HPA HPB HB6b
                      generalize World.alloc z6b (.cells #[.int .i64 0, .int .i64 0] 40) = z7b at hx hb hHeld HPA' HPB' HB6b' ⊢
                      have HX := Lib.hid hx
                      have HB7b := Lib.hid hb
                      have HPA := Lib.hid HPA'
                      have HNeHB7bHPA := Lib.hid neHB7bHPA
                      have HPB := Lib.hid HPB'
                      have HNeHB7bHPB := Lib.hid neHB7bHPB
                      have HB6b := Lib.hid HB6b'
                      have HNeHB7bHB6b := Lib.hid neHB7bHB6b
                      clear hx hb HPA' neHB7bHPA HPB' neHB7bHPB HB6b' neHB7bHB6b
                      try simp only [Act.put, List.getElem_toArray, List.getElem_cons_succ, List.getElem_cons_zero, List.setIfInBounds_toArray, List.set_cons_zero, List.set_cons_succ]
                      refine wpAnyH_ready (rs := [2]) (by kernel_rfl) (by simp) ?_
                      refine AllReadyH.cons rfl (fun K hK => ?_) AllReadyH.nil
                      try simp only [List.getElem_toArray, List.getElem_cons_succ, List.getElem_cons_zero]
                      go_simp
                      go_at_call 11; refine (HA3.out _ _ _ HX.out).mono ?_; intro e q1b hE; obtain rfl := hE.1; obtain ⟨Fz, hX, hMv⟩ := HX.out.app2 hE; have HX := Lib.hid hX; have HPA := Lib.hid (HPA.out.app2 hMv); have HPB := Lib.hid (HPB.out.app2 hMv); have HB6b := Lib.hid (HB6b.out.app2 hMv); have HB7b := Lib.hid (HB7b.out.app2 hMv); clear hE hX hMv
                      try go_wp2_with fail
                      refine hK.out _ _ (HS.out _ _ _ _ _ HX.out) (fun hHeld => ?_)
                      clear hK K
                      try simp only [Act.put, List.getElem_toArray, List.getElem_cons_succ, List.getElem_cons_zero, List.setIfInBounds_toArray, List.set_cons_zero, List.set_cons_succ]
                      refine wpAnyH_ready (rs := [5]) (by kernel_rfl) (by simp) ?_
                      refine AllReadyH.cons rfl (fun K hK => ?_) AllReadyH.nil
                      try simp only [List.getElem_toArray, List.getElem_cons_succ, List.getElem_cons_zero]
                      go_simp
                      go_at_call 11; refine (HA4.out _ _ _ HX.out).mono ?_; intro e q2b hE; obtain rfl := hE.1; obtain ⟨Fz, hX, hMv⟩ := HX.out.app2 hE; have HX := Lib.hid hX; have HPA := Lib.hid (HPA.out.app2 hMv); have HPB := Lib.hid (HPB.out.app2 hMv); have HB6b := Lib.hid (HB6b.out.app2 hMv); have HB7b := Lib.hid (HB7b.out.app2 hMv); clear hE hX hMv
                      try go_wp2_with fail
                      refine hK.out _ _ (HS.out _ _ _ _ _ HX.out) (fun hHeld => ?_)
                      clear hK K
                      try simp only [Act.put, List.getElem_toArray, List.getElem_cons_succ, List.getElem_cons_zero, List.setIfInBounds_toArray, List.set_cons_zero, List.set_cons_succ]
                      have lz := HB6b.out.lt
                      obtain ⟨⟨z0, z1⟩, z2, z3⟩ := blk2 HB6b.out.blk
                      refine wpAnyH_ready (rs := [8]) (by kernel_rfl) (by simp) ?_
                      refine AllReadyH.cons rfl (fun K hK => ?_) AllReadyH.nil
                      try simp only [List.getElem_toArray, List.getElem_cons_succ, List.getElem_cons_zero]
                      go_simp
                      refine hK.out _ _ (HS.out _ _ _ _ _ (HX.out.put HB6b.out (.int .i64 u1) (.int .i64 v1))) (fun hHeld => ?_)
                      clear hK K z0 z1 z2 z3 lz
                      have hb := HB6b.out.put u1 v1
                      have hx := HX.out.put HB6b.out (.int .i64 u1) (.int .i64 v1)
                      have HPA' := HPA.out.other (Ne.symm HNeHB6bHPA.out) (.int .i64 u1) (.int .i64 v1)
                      have HPB' := HPB.out.other (Ne.symm HNeHB6bHPB.out) (.int .i64 u1) (.int .i64 v1)
                      have HB7b' := HB7b.out.other HNeHB7bHB6b.out (.int .i64 u1) (.int .i64 v1)
                      clear HX HB6b HPA HPB HB7b
                      generalize World.setCell (World.setCell q2b ⟨wdb.heap.size, 0, none⟩ (.int .i64 u1)) ⟨wdb.heap.size, 1, none⟩ (.int .i64 v1) = s8b at hx hb hHeld HPA' HPB' HB7b' ⊢
                      have HX := Lib.hid hx
                      have HB6b := Lib.hid hb
                      have HPA := Lib.hid HPA'
                      have HPB := Lib.hid HPB'
                      have HB7b := Lib.hid HB7b'
                      clear hx hb HPA' HPB' HB7b'
                      try simp only [Act.put, List.getElem_toArray, List.getElem_cons_succ, List.getElem_cons_zero, List.setIfInBounds_toArray, List.set_cons_zero, List.set_cons_succ]
                      have lz := HB7b.out.lt
                      obtain ⟨⟨z0, z1⟩, z2, z3⟩ := blk2 HB7b.out.blk
                      refine wpAnyH_ready (rs := [9]) (by kernel_rfl) (by simp) ?_
                      refine AllReadyH.cons rfl (fun K hK => ?_) AllReadyH.nil
                      try simp only [List.getElem_toArray, List.getElem_cons_succ, List.getElem_cons_zero]
                      go_simp
                      refine hK.out _ _ (HS.out _ _ _ _ _ (HX.out.put HB7b.out (.int .i64 x1) (.int .i64 y1))) (fun hHeld => ?_)
                      clear hK K z0 z1 z2 z3 lz
                      have hb := HB7b.out.put x1 y1
                      have hx := HX.out.put HB7b.out (.int .i64 x1) (.int .i64 y1)
                      have HPA' := HPA.out.other (Ne.symm HNeHB7bHPA.out) (.int .i64 x1) (.int .i64 y1)
                      have HPB' := HPB.out.other (Ne.symm HNeHB7bHPB.out) (.int .i64 x1) (.int .i64 y1)
                      have HB6b' := HB6b.out.other (Ne.symm HNeHB7bHB6b.out) (.int .i64 x1) (.int .i64 y1)
                      clear HX HB7b HPA HPB HB6b
                      generalize World.setCell (World.setCell s8b ⟨z6b.heap.size, 0, none⟩ (.int .i64 x1)) ⟨z6b.heap.size, 1, none⟩ (.int .i64 y1) = s9b at hx hb hHeld HPA' HPB' HB6b' ⊢
                      have HX := Lib.hid hx
                      have HB7b := Lib.hid hb
                      have HPA := Lib.hid HPA'
                      have HPB := Lib.hid HPB'
                      have HB6b := Lib.hid HB6b'
                      clear hx hb HPA' HPB' HB6b'
                      try simp only [Act.put, List.getElem_toArray, List.getElem_cons_succ, List.getElem_cons_zero, List.setIfInBounds_toArray, List.set_cons_zero, List.set_cons_succ]
                      refine wpAnyH_done (by kernel_rfl) ?_ _
                      go_wp2_with fail
                      go_meet
                      case rel => exact ⟨_, _, _, _, rfl, rfl, HX.out, HPA.out, HPB.out, HB6b.out, HB7b.out⟩
                  · try simp only [List.getElem_toArray, List.getElem_cons_succ, List.getElem_cons_zero]
                    go_simp
                    refine hK.out _ _ (HS.out _ _ _ _ _ (HX.out.step ((Frm.Turn.refl [] _).alloc (.cells #[.int .i64 0, .int .i64 0] 40)))) (fun hHeld => ?_)
                    clear hK K
                    have hb := HX.out.box
                    have HPA' := HPA.out.step ((Frm.Turn.refl [] _).alloc (.cells #[.int .i64 0, .int .i64 0] 40))
                    have neHB7bHPA := Ne.symm (Nat.ne_of_lt HPA.out.lt)
                    have HPB' := HPB.out.step ((Frm.Turn.refl [] _).alloc (.cells #[.int .i64 0, .int .i64 0] 40))
                    have neHB7bHPB := Ne.symm (Nat.ne_of_lt HPB.out.lt)
                    have hx := HX.out.step ((Frm.Turn.refl [] _).alloc (.cells #[.int .i64 0, .int .i64 0] 40))
                    clear HX HPA HPB
                    generalize World.alloc wdb (.cells #[.int .i64 0, .int .i64 0] 40) = z7b at hx hb hHeld HPA' HPB' ⊢
                    have HX := Lib.hid hx
                    have HB7b := Lib.hid hb
                    have HPA := Lib.hid HPA'
                    have HNeHB7bHPA := Lib.hid neHB7bHPA
                    have HPB := Lib.hid HPB'
                    have HNeHB7bHPB := Lib.hid neHB7bHPB
                    clear hx hb HPA' neHB7bHPA HPB' neHB7bHPB
                    try simp only [Act.put, List.getElem_toArray, List.getElem_cons_succ, List.getElem_cons_zero, List.setIfInBounds_toArray, List.set_cons_zero, List.set_cons_succ]
                    refine wpAnyH_ready (rs := [2, 6]) (by kernel_rfl) (by simp) ?_
                    refine AllReadyH.cons rfl (fun K hK => ?_) (AllReadyH.cons rfl (fun K hK => ?_) AllReadyH.nil)
                    · try simp only [List.getElem_toArray, List.getElem_cons_succ, List.getElem_cons_zero]
                      go_simp
                      go_at_call 11; refine (HA3.out _ _ _ HX.out).mono ?_; intro e q1b hE; obtain rfl := hE.1; obtain ⟨Fz, hX, hMv⟩ := HX.out.app2 hE; have HX := Lib.hid hX; have HPA := Lib.hid (HPA.out.app2 hMv); have HPB := Lib.hid (HPB.out.app2 hMv); have HB7b := Lib.hid (HB7b.out.app2 hMv); clear hE hX hMv
                      try go_wp2_with fail
                      refine hK.out _ _ (HS.out _ _ _ _ _ HX.out) (fun hHeld => ?_)
                      clear hK K
                      try simp only [Act.put, List.getElem_toArray, List.getElem_cons_succ, List.getElem_cons_zero, List.setIfInBounds_toArray, List.set_cons_zero, List.set_cons_succ]
                      refine wpAnyH_ready (rs := [5, 6]) (by kernel_rfl) (by simp) ?_
                      refine AllReadyH.cons rfl (fun K hK => ?_) (AllReadyH.cons rfl (fun K hK => ?_) AllReadyH.nil)
                      · try simp only [List.getElem_toArray, List.getElem_cons_succ, List.getElem_cons_zero]
                        go_simp
                        go_at_call 11; refine (HA4.out _ _ _ HX.out).mono ?_; intro e q2b hE; obtain rfl := hE.1; obtain ⟨Fz, hX, hMv⟩ := HX.out.app2 hE; have HX := Lib.hid hX; have HPA := Lib.hid (HPA.out.app2 hMv); have HPB := Lib.hid (HPB.out.app2 hMv); have HB7b := Lib.hid (HB7b.out.app2 hMv); clear hE hX hMv
                        try go_wp2_with fail
                        refine hK.out _ _ (HS.out _ _ _ _ _ HX.out) (fun hHeld => ?_)
                        clear hK K
                        try simp only [Act.put, List.getElem_toArray, List.getElem_cons_succ, List.getElem_cons_zero, List.setIfInBounds_toArray, List.set_cons_zero, List.set_cons_succ]
                        refine wpAnyH_ready (rs := [6]) (by kernel_rfl) (by simp) ?_
                        refine AllReadyH.cons rfl (fun K hK => ?_) AllReadyH.nil
                        try simp only [List.getElem_toArray, List.getElem_cons_succ, List.getElem_cons_zero]
                        go_simp
                        refine hK.out _ _ (HS.out _ _ _ _ _ (HX.out.step ((Frm.Turn.refl [] _).alloc (.cells #[.int .i64 0, .int .i64 0] 40)))) (fun hHeld => ?_)
                        clear hK K
                        have hb := HX.out.box
                        have HPA' := HPA.out.step ((Frm.Turn.refl [] _).alloc (.cells #[.int .i64 0, .int .i64 0] 40))
                        have neHB6bHPA := Ne.symm (Nat.ne_of_lt HPA.out.lt)
                        have HPB' := HPB.out.step ((Frm.Turn.refl [] _).alloc (.cells #[.int .i64 0, .int .i64 0] 40))
                        have neHB6bHPB := Ne.symm (Nat.ne_of_lt HPB.out.lt)
                        have HB7b' := HB7b.out.step ((Frm.Turn.refl [] _).alloc (.cells #[.int .i64 0, .int .i64 0] 40))
                        have neHB6bHB7b := Ne.symm (Nat.ne_of_lt HB7b.out.lt)
                        have hx := HX.out.step ((Frm.Turn.refl [] _).alloc (.cells #[.int .i64 0, .int .i64 0] 40))
                        clear HX HPA HPB HB7b
                        generalize World.alloc q2b (.cells #[.int .i64 0, .int .i64 0] 40) = z6b at hx hb hHeld HPA' HPB' HB7b' ⊢
                        have HX := Lib.hid hx
                        have HB6b := Lib.hid hb
                        have HPA := Lib.hid HPA'
                        have HNeHB6bHPA := Lib.hid neHB6bHPA
                        have HPB := Lib.hid HPB'
                        have HNeHB6bHPB := Lib.hid neHB6bHPB
                        have HB7b := Lib.hid HB7b'
                        have HNeHB6bHB7b := Lib.hid neHB6bHB7b
                        clear hx hb HPA' neHB6bHPA HPB' neHB6bHPB HB7b' neHB6bHB7b
                        try simp only [Act.put, List.getElem_toArray, List.getElem_cons_succ, List.getElem_cons_zero, List.setIfInBounds_toArray, List.set_cons_zero, List.set_cons_succ]
                        have lz := HB6b.out.lt
                        obtain ⟨⟨z0, z1⟩, z2, z3⟩ := blk2 HB6b.out.blk
                        refine wpAnyH_ready (rs := [8]) (by kernel_rfl) (by simp) ?_
                        refine AllReadyH.cons rfl (fun K hK => ?_) AllReadyH.nil
                        try simp only [List.getElem_toArray, List.getElem_cons_succ, List.getElem_cons_zero]
                        go_simp
                        refine hK.out _ _ (HS.out _ _ _ _ _ (HX.out.put HB6b.out (.int .i64 u1) (.int .i64 v1))) (fun hHeld => ?_)
                        clear hK K z0 z1 z2 z3 lz
                        have hb := HB6b.out.put u1 v1
                        have hx := HX.out.put HB6b.out (.int .i64 u1) (.int .i64 v1)
                        have HPA' := HPA.out.other (Ne.symm HNeHB6bHPA.out) (.int .i64 u1) (.int .i64 v1)
                        have HPB' := HPB.out.other (Ne.symm HNeHB6bHPB.out) (.int .i64 u1) (.int .i64 v1)
                        have HB7b' := HB7b.out.other (Ne.symm HNeHB6bHB7b.out) (.int .i64 u1) (.int .i64 v1)
                        clear HX HB6b HPA HPB HB7b
                        generalize World.setCell (World.setCell z6b ⟨q2b.heap.size, 0, none⟩ (.int .i64 u1)) ⟨q2b.heap.size, 1, none⟩ (.int .i64 v1) = s8b at hx hb hHeld HPA' HPB' HB7b' ⊢
                        have HX := Lib.hid hx
                        have HB6b := Lib.hid hb
                        have HPA := Lib.hid HPA'
                        have HPB := Lib.hid HPB'
                        have HB7b := Lib.hid HB7b'
                        clear hx hb HPA' HPB' HB7b'
                        try simp only [Act.put, List.getElem_toArray, List.getElem_cons_succ, List.getElem_cons_zero, List.setIfInBounds_toArray, List.set_cons_zero, List.set_cons_succ]
                        have lz := HB7b.out.lt
                        obtain ⟨⟨z0, z1⟩, z2, z3⟩ := blk2 HB7b.out.blk
                        refine wpAnyH_ready (rs := [9]) (by kernel_rfl) (by simp) ?_
                        refine AllReadyH.cons rfl (fun K hK => ?_) AllReadyH.nil
                        try simp only [List.getElem_toArray, List.getElem_cons_succ, List.getElem_cons_zero]
                        go_simp
                        refine hK.out _ _ (HS.out _ _ _ _ _ (HX.out.put HB7b.out (.int .i64 x1) (.int .i64 y1))) (fun hHeld => ?_)
                        clear hK K z0 z1 z2 z3 lz
                        have hb := HB7b.out.put x1 y1
                        have hx := HX.out.put HB7b.out (.int .i64 x1) (.int .i64 y1)
                        have HPA' := HPA.out.other (Ne.symm HNeHB7bHPA.out) (.int .i64 x1) (.int .i64 y1)
                        have HPB' := HPB.out.other (Ne.symm HNeHB7bHPB.out) (.int .i64 x1) (.int .i64 y1)
                        have HB6b' := HB6b.out.other HNeHB6bHB7b.out (.int .i64 x1) (.int .i64 y1)
                        clear HX HB7b HPA HPB HB6b
                        generalize World.setCell (World.setCell s8b ⟨wdb.heap.size, 0, none⟩ (.int .i64 x1)) ⟨wdb.heap.size, 1, none⟩ (.int .i64 y1) = s9b at hx hb hHeld HPA' HPB' HB6b' ⊢
                        have HX := Lib.hid hx
                        have HB7b := Lib.hid hb
                        have HPA := Lib.hid HPA'
                        have HPB := Lib.hid HPB'
                        have HB6b := Lib.hid HB6b'
                        clear hx hb HPA' HPB' HB6b'
                        try simp only [Act.put, List.getElem_toArray, List.getElem_cons_succ, List.getElem_cons_zero, List.setIfInBounds_toArray, List.set_cons_zero, List.set_cons_succ]
                        refine wpAnyH_done (by kernel_rfl) ?_ _
                        go_wp2_with fail
                        go_meet
                        case rel => exact ⟨_, _, _, _, rfl, rfl, HX.out, HPA.out, HPB.out, HB6b.out, HB7b.out⟩
                      · try simp only [List.getElem_toArray, List.getElem_cons_succ, List.getElem_cons_zero]
                        go_simp
                        refine hK.out _ _ (HS.out _ _ _ _ _ (HX.out.step ((Frm.Turn.refl [] _).alloc (.cells #[.int .i64 0, .int .i64 0] 40)))) (fun hHeld => ?_)
                        clear hK K
                        have hb := HX.out.box
                        have HPA' := HPA.out.step ((Frm.Turn.refl [] _).alloc (.cells #[.int .i64 0, .int .i64 0] 40))
                        have neHB6bHPA := Ne.symm (Nat.ne_of_lt HPA.out.lt)
                        have HPB' := HPB.out.step ((Frm.Turn.refl [] _).alloc (.cells #[.int .i64 0, .int .i64 0] 40))
                        have neHB6bHPB := Ne.symm (Nat.ne_of_lt HPB.out.lt)
                        have HB7b' := HB7b.out.step ((Frm.Turn.refl [] _).alloc (.cells #[.int .i64 0, .int .i64 0] 40))
                        have neHB6bHB7b := Ne.symm (Nat.ne_of_lt HB7b.out.lt)
                        have hx := HX.out.step ((Frm.Turn.refl [] _).alloc (.cells #[.int .i64 0, .int .i64 0] 40))
                        clear HX HPA HPB HB7b
                        generalize World.alloc q1b (.cells #[.int .i64 0, .int .i64 0] 40) = z6b at hx hb hHeld HPA' HPB' HB7b' ⊢
                        have HX := Lib.hid hx
                        have HB6b := Lib.hid hb
                        have HPA := Lib.hid HPA'
                        have HNeHB6bHPA := Lib.hid neHB6bHPA
                        have HPB := Lib.hid HPB'
                        have HNeHB6bHPB := Lib.hid neHB6bHPB
                        have HB7b := Lib.hid HB7b'
                        have HNeHB6bHB7b := Lib.hid neHB6bHB7b
                        clear hx hb HPA' neHB6bHPA HPB' neHB6bHPB HB7b' neHB6bHB7b
                        try simp only [Act.put, List.getElem_toArray, List.getElem_cons_succ, List.getElem_cons_zero, List.setIfInBounds_toArray, List.set_cons_zero, List.set_cons_succ]
                        refine wpAnyH_ready (rs := [5]) (by kernel_rfl) (by simp) ?_
                        refine AllReadyH.cons rfl (fun K hK => ?_) AllReadyH.nil
                        try simp only [List.getElem_toArray, List.getElem_cons_succ, List.getElem_cons_zero]
                        go_simp
                        go_at_call 11; refine (HA4.out _ _ _ HX.out).mono ?_; intro e q2b hE; obtain rfl := hE.1; obtain ⟨Fz, hX, hMv⟩ := HX.out.app2 hE; have HX := Lib.hid hX; have HPA := Lib.hid (HPA.out.app2 hMv); have HPB := Lib.hid (HPB.out.app2 hMv); have HB7b := Lib.hid (HB7b.out.app2 hMv); have HB6b := Lib.hid (HB6b.out.app2 hMv); clear hE hX hMv
                        try go_wp2_with fail
                        refine hK.out _ _ (HS.out _ _ _ _ _ HX.out) (fun hHeld => ?_)
                        clear hK K
                        try simp only [Act.put, List.getElem_toArray, List.getElem_cons_succ, List.getElem_cons_zero, List.setIfInBounds_toArray, List.set_cons_zero, List.set_cons_succ]
                        have lz := HB6b.out.lt
                        obtain ⟨⟨z0, z1⟩, z2, z3⟩ := blk2 HB6b.out.blk
                        refine wpAnyH_ready (rs := [8]) (by kernel_rfl) (by simp) ?_
                        refine AllReadyH.cons rfl (fun K hK => ?_) AllReadyH.nil
                        try simp only [List.getElem_toArray, List.getElem_cons_succ, List.getElem_cons_zero]
                        go_simp
                        refine hK.out _ _ (HS.out _ _ _ _ _ (HX.out.put HB6b.out (.int .i64 u1) (.int .i64 v1))) (fun hHeld => ?_)
                        clear hK K z0 z1 z2 z3 lz
                        have hb := HB6b.out.put u1 v1
                        have hx := HX.out.put HB6b.out (.int .i64 u1) (.int .i64 v1)
                        have HPA' := HPA.out.other (Ne.symm HNeHB6bHPA.out) (.int .i64 u1) (.int .i64 v1)
                        have HPB' := HPB.out.other (Ne.symm HNeHB6bHPB.out) (.int .i64 u1) (.int .i64 v1)
                        have HB7b' := HB7b.out.other (Ne.symm HNeHB6bHB7b.out) (.int .i64 u1) (.int .i64 v1)
                        clear HX HB6b HPA HPB HB7b
                        generalize World.setCell (World.setCell q2b ⟨q1b.heap.size, 0, none⟩ (.int .i64 u1)) ⟨q1b.heap.size, 1, none⟩ (.int .i64 v1) = s8b at hx hb hHeld HPA' HPB' HB7b' ⊢
                        have HX := Lib.hid hx
                        have HB6b := Lib.hid hb
                        have HPA := Lib.hid HPA'
                        have HPB := Lib.hid HPB'
                        have HB7b := Lib.hid HB7b'
                        clear hx hb HPA' HPB' HB7b'
                        try simp only [Act.put, List.getElem_toArray, List.getElem_cons_succ, List.getElem_cons_zero, List.setIfInBounds_toArray, List.set_cons_zero, List.set_cons_succ]
                        have lz := HB7b.out.lt
                        obtain ⟨⟨z0, z1⟩, z2, z3⟩ := blk2 HB7b.out.blk
                        refine wpAnyH_ready (rs := [9]) (by kernel_rfl) (by simp) ?_
                        refine AllReadyH.cons rfl (fun K hK => ?_) AllReadyH.nil
                        try simp only [List.getElem_toArray, List.getElem_cons_succ, List.getElem_cons_zero]
                        go_simp
                        refine hK.out _ _ (HS.out _ _ _ _ _ (HX.out.put HB7b.out (.int .i64 x1) (.int .i64 y1))) (fun hHeld => ?_)
                        clear hK K z0 z1 z2 z3 lz
                        have hb := HB7b.out.put x1 y1
                        have hx := HX.out.put HB7b.out (.int .i64 x1) (.int .i64 y1)
                        have HPA' := HPA.out.other (Ne.symm HNeHB7bHPA.out) (.int .i64 x1) (.int .i64 y1)
                        have HPB' := HPB.out.other (Ne.symm HNeHB7bHPB.out) (.int .i64 x1) (.int .i64 y1)
                        have HB6b' := HB6b.out.other HNeHB6bHB7b.out (.int .i64 x1) (.int .i64 y1)
                        clear HX HB7b HPA HPB HB6b
                        generalize World.setCell (World.setCell s8b ⟨wdb.heap.size, 0, none⟩ (.int .i64 x1)) ⟨wdb.heap.size, 1, none⟩ (.int .i64 y1) = s9b at hx hb hHeld HPA' HPB' HB6b' ⊢
                        have HX := Lib.hid hx
                        have HB7b := Lib.hid hb
                        have HPA := Lib.hid HPA'
                        have HPB := Lib.hid HPB'
                        have HB6b := Lib.hid HB6b'
                        clear hx hb HPA' HPB' HB6b'
                        try simp only [Act.put, List.getElem_toArray, List.getElem_cons_succ, List.getElem_cons_zero, List.setIfInBounds_toArray, List.set_cons_zero, List.set_cons_succ]
                        refine wpAnyH_done (by kernel_rfl) ?_ _
                        go_wp2_with fail
                        go_meet
                        case rel => exact ⟨_, _, _, _, rfl, rfl, HX.out, HPA.out, HPB.out, HB6b.out, HB7b.out⟩
                    · try simp only [List.getElem_toArray, List.getElem_cons_succ, List.getElem_cons_zero]
                      go_simp
                      refine hK.out _ _ (HS.out _ _ _ _ _ (HX.out.step ((Frm.Turn.refl [] _).alloc (.cells #[.int .i64 0, .int .i64 0] 40)))) (fun hHeld => ?_)
                      clear hK K
                      have hb := HX.out.box
                      have HPA' := HPA.out.step ((Frm.Turn.refl [] _).alloc (.cells #[.int .i64 0, .int .i64 0] 40))
                      have neHB6bHPA := Ne.symm (Nat.ne_of_lt HPA.out.lt)
                      have HPB' := HPB.out.step ((Frm.Turn.refl [] _).alloc (.cells #[.int .i64 0, .int .i64 0] 40))
                      have neHB6bHPB := Ne.symm (Nat.ne_of_lt HPB.out.lt)
                      have HB7b' := HB7b.out.step ((Frm.Turn.refl [] _).alloc (.cells #[.int .i64 0, .int .i64 0] 40))
                      have neHB6bHB7b := Ne.symm (Nat.ne_of_lt HB7b.out.lt)
                      have hx := HX.out.step ((Frm.Turn.refl [] _).alloc (.cells #[.int .i64 0, .int .i64 0] 40))
                      clear HX HPA HPB HB7b
                      generalize World.alloc z7b (.cells #[.int .i64 0, .int .i64 0] 40) = z6b at hx hb hHeld HPA' HPB' HB7b' ⊢
                      have HX := Lib.hid hx
                      have HB6b := Lib.hid hb
                      have HPA := Lib.hid HPA'
                      have HNeHB6bHPA := Lib.hid neHB6bHPA
                      have HPB := Lib.hid HPB'
                      have HNeHB6bHPB := Lib.hid neHB6bHPB
                      have HB7b := Lib.hid HB7b'
                      have HNeHB6bHB7b := Lib.hid neHB6bHB7b
                      clear hx hb HPA' neHB6bHPA HPB' neHB6bHPB HB7b' neHB6bHB7b
                      try simp only [Act.put, List.getElem_toArray, List.getElem_cons_succ, List.getElem_cons_zero, List.setIfInBounds_toArray, List.set_cons_zero, List.set_cons_succ]
                      refine wpAnyH_ready (rs := [2]) (by kernel_rfl) (by simp) ?_
                      refine AllReadyH.cons rfl (fun K hK => ?_) AllReadyH.nil
                      try simp only [List.getElem_toArray, List.getElem_cons_succ, List.getElem_cons_zero]
                      go_simp
                      go_at_call 11; refine (HA3.out _ _ _ HX.out).mono ?_; intro e q1b hE; obtain rfl := hE.1; obtain ⟨Fz, hX, hMv⟩ := HX.out.app2 hE; have HX := Lib.hid hX; have HPA := Lib.hid (HPA.out.app2 hMv); have HPB := Lib.hid (HPB.out.app2 hMv); have HB7b := Lib.hid (HB7b.out.app2 hMv); have HB6b := Lib.hid (HB6b.out.app2 hMv); clear hE hX hMv
                      try go_wp2_with fail
                      refine hK.out _ _ (HS.out _ _ _ _ _ HX.out) (fun hHeld => ?_)
                      clear hK K
                      try simp only [Act.put, List.getElem_toArray, List.getElem_cons_succ, List.getElem_cons_zero, List.setIfInBounds_toArray, List.set_cons_zero, List.set_cons_succ]
                      refine wpAnyH_ready (rs := [5]) (by kernel_rfl) (by simp) ?_
                      refine AllReadyH.cons rfl (fun K hK => ?_) AllReadyH.nil
                      try simp only [List.getElem_toArray, List.getElem_cons_succ, List.getElem_cons_zero]
                      go_simp
                      go_at_call 11; refine (HA4.out _ _ _ HX.out).mono ?_; intro e q2b hE; obtain rfl := hE.1; obtain ⟨Fz, hX, hMv⟩ := HX.out.app2 hE; have HX := Lib.hid hX; have HPA := Lib.hid (HPA.out.app2 hMv); have HPB := Lib.hid (HPB.out.app2 hMv); have HB7b := Lib.hid (HB7b.out.app2 hMv); have HB6b := Lib.hid (HB6b.out.app2 hMv); clear hE hX hMv
                      try go_wp2_with fail
                      refine hK.out _ _ (HS.out _ _ _ _ _ HX.out) (fun hHeld => ?_)
                      clear hK K
                      try simp only [Act.put, List.getElem_toArray, List.getElem_cons_succ, List.getElem_cons_zero, List.setIfInBounds_toArray, List.set_cons_zero, List.set_cons_succ]
                      have lz := HB6b.out.lt
                      obtain ⟨⟨z0, z1⟩, z2, z3⟩ := blk2 HB6b.out.blk
                      refine wpAnyH_ready (rs := [8]) (by kernel_rfl) (by simp) ?_
                      refine AllReadyH.cons rfl (fun K hK => ?_) AllReadyH.nil
                      try simp only [List.getElem_toArray, List.getElem_cons_succ, List.getElem_cons_zero]
                      go_simp
                      refine hK.out _ _ (HS.out _ _ _ _ _ (HX.out.put HB6b.out (.int .i64 u1) (.int .i64 v1))) (fun hHeld => ?_)
                      clear hK K z0 z1 z2 z3 lz
                      have hb := HB6b.out.put u1 v1
                      have hx := HX.out.put HB6b.out (.int .i64 u1) (.int .i64 v1)
                      have HPA' := HPA.out.other (Ne.symm HNeHB6bHPA.out) (.int .i64 u1) (.int .i64 v1)
                      have HPB' := HPB.out.other (Ne.symm HNeHB6bHPB.out) (.int .i64 u1) (.int .i64 v1)
                      have HB7b' := HB7b.out.other (Ne.symm HNeHB6bHB7b.out) (.int .i64 u1) (.int .i64 v1)
                      clear HX HB6b HPA HPB HB7b
                      generalize World.setCell (World.setCell q2b ⟨z7b.heap.size, 0, none⟩ (.int .i64 u1)) ⟨z7b.heap.size, 1, none⟩ (.int .i64 v1) = s8b at hx hb hHeld HPA' HPB' HB7b' ⊢
                      have HX := Lib.hid hx
                      have HB6b := Lib.hid hb
                      have HPA := Lib.hid HPA'
                      have HPB := Lib.hid HPB'
                      have HB7b := Lib.hid HB7b'
                      clear hx hb HPA' HPB' HB7b'
                      try simp only [Act.put, List.getElem_toArray, List.getElem_cons_succ, List.getElem_cons_zero, List.setIfInBounds_toArray, List.set_cons_zero, List.set_cons_succ]
                      have lz := HB7b.out.lt
                      obtain ⟨⟨z0, z1⟩, z2, z3⟩ := blk2 HB7b.out.blk
                      refine wpAnyH_ready (rs := [9]) (by kernel_rfl) (by simp) ?_
                      refine AllReadyH.cons rfl (fun K hK => ?_) AllReadyH.nil
                      try simp only [List.getElem_toArray, List.getElem_cons_succ, List.getElem_cons_zero]
                      go_simp
                      refine hK.out _ _ (HS.out _ _ _ _ _ (HX.out.put HB7b.out (.int .i64 x1) (.int .i64 y1))) (fun hHeld => ?_)
                      clear hK K z0 z1 z2 z3 lz
                      have hb := HB7b.out.put x1 y1
                      have hx := HX.out.put HB7b.out (.int .i64 x1) (.int .i64 y1)
                      have HPA' := HPA.out.other (Ne.symm HNeHB7bHPA.out) (.int .i64 x1) (.int .i64 y1)
                      have HPB' := HPB.out.other (Ne.symm HNeHB7bHPB.out) (.int .i64 x1) (.int .i64 y1)
                      have HB6b' := HB6b.out.other HNeHB6bHB7b.out (.int .i64 x1) (.int .i64 y1)
                      clear HX HB7b HPA HPB HB6b
                      generalize World.setCell (World.setCell s8b ⟨wdb.heap.size, 0, none⟩ (.int .i64 x1)) ⟨wdb.heap.size, 1, none⟩ (.int .i64 y1) = s9b at hx hb hHeld HPA' HPB' HB6b' ⊢
                      have HX := Lib.hid hx
                      have HB7b := Lib.hid hb
                      have HPA := Lib.hid HPA'
                      have HPB := Lib.hid HPB'
                      have HB6b := Lib.hid HB6b'
                      clear hx hb HPA' HPB' HB6b'
                      try simp only [Act.put, List.getElem_toArray, List.getElem_cons_succ, List.getElem_cons_zero, List.setIfInBounds_toArray, List.set_cons_zero, List.set_cons_succ]
                      refine wpAnyH_done (by kernel_rfl) ?_ _
                      go_wp2_with fail
                      go_meet
                      case rel => exact ⟨_, _, _, _, rfl, rfl, HX.out, HPA.out, HPB.out, HB6b.out, HB7b.out⟩
                case rest =>
                  obtain ⟨i5, j5, Fe, Ff, rfl, rfl, hX, hb1, hb2, hb3, hb4⟩ := hcut
                  obtain ⟨⟨c10, c11⟩, _⟩ := blk2 hb1.blk
                  obtain ⟨⟨c20, c21⟩, _⟩ := blk2 hb2.blk
                  obtain ⟨⟨c30, c31⟩, _⟩ := blk2 hb3.blk
                  obtain ⟨⟨c40, c41⟩, _⟩ := blk2 hb4.blk
                  have okm : MOk m2 := hX.m1.choose_spec.choose_spec.choose_spec.2.ok
                  have hSa := same_any hX.m1 hX.m2
                  rw [(sameM_iff okm okm).2 rfl] at hSa
                  have HSa := Lib.hid hSa
                  have HTf := Lib.hid (HTW.out _ _ _ _ _ hX)
                  clear hX hb1 hb2 hb3 hb4 okm hSa
                  go_wp2_with fail
                  refine HSa.out.mono ?_
                  rintro e wz ⟨rfl, hT⟩
                  have HTg := Lib.hid (HTf.out.trans hT (by simp))
                  clear hT
                  go_wp2_with fail
                  go_ret
                  exact ⟨rfl, HTg.out⟩
end Mdl
end Go.Proofs.YtmodanjblbaedaaDoor
