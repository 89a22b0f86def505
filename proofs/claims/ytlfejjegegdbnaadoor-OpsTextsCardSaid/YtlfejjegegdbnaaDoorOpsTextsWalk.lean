/- The walk of law OpsTexts: it returns true for all operations, responses and texts. -/
import Derived.Test.YtlfejjegegdbnaaDoorOpsRefs2
import Derived.Test.YtlfejjegegdbnaaDoorOpsLawFirst
import Derived.Deep.RegionHeld3
set_option linter.unusedVariables false
set_option linter.unusedSimpArgs false
namespace Go.Proofs.YtlfejjegegdbnaaDoor
namespace Ops
open Go.RowKit Go.Lib

set_option maxRecDepth 100000 in
set_option maxHeartbeats 4000000 in
theorem opsTexts_long (c k a b p v : Int) (s : ByteArray) (w : World) (hk : Kn w) (hs : 500 < s.size) :
    Calls Tryd.prog 5 #[.agg #[.int .i64 c, .int .i64 k, .int .i64 a, .int .i64 b], .agg #[.int .i64 p, .int .i64 v], .string s] w fun e w' => e = .returned (.bool true) ∧ Frm.Turn [] w w' := by
  have hTA : Frm.Turn [] w ((w.alloc (.cells #[.int .i64 c, .int .i64 k, .int .i64 a, .int .i64 b] 23)).alloc (.cells #[.int .i64 p, .int .i64 v] 25)) := ((Frm.Turn.refl [] w).alloc _).alloc _
  have P0 := Lib.hid (first_any ((w.alloc (.cells #[.int .i64 c, .int .i64 k, .int .i64 a, .int .i64 b] 23)).alloc (.cells #[.int .i64 p, .int .i64 v] 25)) (hk.turn hTA))
  have TA := Lib.hid hTA
  have hs1 : (500 : Int) < (s.size : Int) := by omega
  clear hTA hk
  go_enter Tryd.func5, Tryd.ntmps5
  go_wp2_with (go_at_call 7; (with_reducible refine (P0.out).mono ?_); rintro e w1 ⟨rfl, hT⟩; have T1 := Lib.hid (TA.out.trans hT (by simp)); clear hT)
  go_ret
  exact ⟨rfl, T1.out⟩

set_option maxRecDepth 100000 in
set_option maxHeartbeats 8000000 in
theorem opsTexts_form (c k a b p v d l x y r u : Int) (s f g : ByteArray) (o q : Bool) (w : World) (hk : Kn w) (hs : s.size ≤ 500) (Q1 : Hid (∀ W, Kn W → Calls Tryd.prog 20 #[.string s] W fun e w' => e = .returned (.tuple #[.agg #[.int .i64 d, .int .i64 l, .int .i64 x, .int .i64 y], .bool o]) ∧ Frm.Turn [] W w')) (Q2 : Hid (∀ W, Calls Tryd.prog 21 #[.string s] W fun e w' => e = .returned (.tuple #[.agg #[.int .i64 d, .int .i64 l, .int .i64 x, .int .i64 y], .bool o]) ∧ Frm.Turn [] W w')) (Q3 : Hid (∀ W, Kn W → Calls Tryd.prog 22 #[.string s] W fun e w' => e = .returned (.tuple #[.agg #[.int .i64 r, .int .i64 u], .bool q]) ∧ Frm.Turn [] W w')) (Q4 : Hid (∀ W, Calls Tryd.prog 23 #[.string s] W fun e w' => e = .returned (.tuple #[.agg #[.int .i64 r, .int .i64 u], .bool q]) ∧ Frm.Turn [] W w')) (Q5 : Hid (∀ W, Kn W → Calls Tryd.prog 24 #[.agg #[.int .i64 c, .int .i64 k, .int .i64 a, .int .i64 b]] W fun e w' => e = .returned (.string f) ∧ Frm.Turn [] W w')) (Q6 : Hid (∀ W, Calls Tryd.prog 25 #[.agg #[.int .i64 c, .int .i64 k, .int .i64 a, .int .i64 b]] W fun e w' => e = .returned (.string f) ∧ Frm.Turn [] W w')) (Q7 : Hid (∀ W, Kn W → Calls Tryd.prog 26 #[.agg #[.int .i64 p, .int .i64 v]] W fun e w' => e = .returned (.string g) ∧ Frm.Turn [] W w')) (Q8 : Hid (∀ W, Calls Tryd.prog 27 #[.agg #[.int .i64 p, .int .i64 v]] W fun e w' => e = .returned (.string g) ∧ Frm.Turn [] W w')) :
    Calls Tryd.prog 5 #[.agg #[.int .i64 c, .int .i64 k, .int .i64 a, .int .i64 b], .agg #[.int .i64 p, .int .i64 v], .string s] w fun e w' => e = .returned (.bool true) ∧ Frm.Turn [] w w' := by
  have hTA : Frm.Turn [] w ((w.alloc (.cells #[.int .i64 c, .int .i64 k, .int .i64 a, .int .i64 b] 23)).alloc (.cells #[.int .i64 p, .int .i64 v] 25)) := ((Frm.Turn.refl [] w).alloc _).alloc _
  have TA := Lib.hid hTA
  have hBa := heap_below w (.cells #[.int .i64 c, .int .i64 k, .int .i64 a, .int .i64 b] 23) (.cells #[.int .i64 p, .int .i64 v] 25)
  have hBb := heap_last w (.cells #[.int .i64 c, .int .i64 k, .int .i64 a, .int .i64 b] 23) (.cells #[.int .i64 p, .int .i64 v] 25)
  have HS : Hid (∀ W', Frm.Turn [] ((w.alloc (.cells #[.int .i64 c, .int .i64 k, .int .i64 a, .int .i64 b] 23)).alloc (.cells #[.int .i64 p, .int .i64 v] 25)) W' → (W').cell? ⟨w.heap.size, 0, none⟩ = some (.int .i64 c) ∧ (W').cell? ⟨w.heap.size, 1, none⟩ = some (.int .i64 k) ∧ (W').cell? ⟨w.heap.size, 2, none⟩ = some (.int .i64 a) ∧ (W').cell? ⟨w.heap.size, 3, none⟩ = some (.int .i64 b) ∧ (W').cell? ⟨w.heap.size + 1, 0, none⟩ = some (.int .i64 p) ∧ (W').cell? ⟨w.heap.size + 1, 1, none⟩ = some (.int .i64 v)) := by
    refine Lib.hid (fun W' hT => ?_)
    obtain ⟨⟨h0, h1, h2, h3⟩, _⟩ := blk4 (hT.keep hBa (by simp))
    obtain ⟨⟨g0, g1⟩, _⟩ := blk2 (hT.keep hBb (by simp))
    exact ⟨h0, h1, h2, h3, g0, g1⟩
  have P0 := Lib.hid (first_any ((w.alloc (.cells #[.int .i64 c, .int .i64 k, .int .i64 a, .int .i64 b] 23)).alloc (.cells #[.int .i64 p, .int .i64 v] 25)) (hk.turn hTA))
  have K := Lib.hid (fun W' (hT : Frm.Turn [] ((w.alloc (.cells #[.int .i64 c, .int .i64 k, .int .i64 a, .int .i64 b] 23)).alloc (.cells #[.int .i64 p, .int .i64 v] 25)) W') => hk.turn (hTA.trans hT (by simp)))
  have CL := Lib.hid (fun W' (hT : Frm.Turn [] ((w.alloc (.cells #[.int .i64 c, .int .i64 k, .int .i64 a, .int .i64 b] 23)).alloc (.cells #[.int .i64 p, .int .i64 v] 25)) W') => hTA.trans hT (by simp))
  have hs1 : ¬ ((500 : Int) < (s.size : Int)) := by omega
  clear hBa hBb hTA hk TA
  go_enter Tryd.func5, Tryd.ntmps5
  go_upto_region 1 with fail
  generalize ((w.alloc (.cells #[.int .i64 c, .int .i64 k, .int .i64 a, .int .i64 b] 23)).alloc (.cells #[.int .i64 p, .int .i64 v] 25)) = WA at P0 K HS CL ⊢
  go_upto_region 9 with (first
    | (go_at_call 7; (with_reducible refine (P0.out).mono ?_); rintro e w0 ⟨rfl, hT⟩; have T0 := Lib.hid hT; clear hT)
    | (go_at_call 20; (with_reducible refine (Q1.out _ (K.out _ T0.out)).mono ?_); rintro e w1 ⟨rfl, hT⟩; have T1 := Lib.hid ((T0.out.trans hT (by simp)).alloc (.cells #[.int .i64 d, .int .i64 l, .int .i64 x, .int .i64 y] 23)); have Ha1 := Lib.hid (World.alloc_heap_new w1 (.cells #[.int .i64 d, .int .i64 l, .int .i64 x, .int .i64 y] 23)); clear hT)
    | (go_at_call 21; (with_reducible refine (Q2.out (w1.alloc (.cells #[.int .i64 d, .int .i64 l, .int .i64 x, .int .i64 y] 23))).mono ?_); rintro e w2 ⟨rfl, hT⟩; have T2 := Lib.hid ((T1.out.trans hT (by simp)).alloc (.cells #[.int .i64 d, .int .i64 l, .int .i64 x, .int .i64 y] 23)); have Ha2 := Lib.hid (((Frm.Turn.refl [] w2).alloc (.cells #[.int .i64 d, .int .i64 l, .int .i64 x, .int .i64 y] 23)).keep (hT.keep Ha1.out (by simp)) (by simp)); have Hb2 := Lib.hid (World.alloc_heap_new w2 (.cells #[.int .i64 d, .int .i64 l, .int .i64 x, .int .i64 y] 23)); clear hT)
    | (go_at_call 22; (with_reducible refine (Q3.out _ (K.out _ T2.out)).mono ?_); rintro e w3 ⟨rfl, hT⟩; have T3 := Lib.hid ((T2.out.trans hT (by simp)).alloc (.cells #[.int .i64 r, .int .i64 u] 25)); have Ha3 := Lib.hid (((Frm.Turn.refl [] w3).alloc (.cells #[.int .i64 r, .int .i64 u] 25)).keep (hT.keep Ha2.out (by simp)) (by simp)); have Hb3 := Lib.hid (((Frm.Turn.refl [] w3).alloc (.cells #[.int .i64 r, .int .i64 u] 25)).keep (hT.keep Hb2.out (by simp)) (by simp)); have Hc3 := Lib.hid (World.alloc_heap_new w3 (.cells #[.int .i64 r, .int .i64 u] 25)); clear hT)
    | (go_at_call 23; (with_reducible refine (Q4.out (w3.alloc (.cells #[.int .i64 r, .int .i64 u] 25))).mono ?_); rintro e w4 ⟨rfl, hT⟩; have T4 := Lib.hid ((T3.out.trans hT (by simp)).alloc (.cells #[.int .i64 r, .int .i64 u] 25)); have Ha4 := Lib.hid (((Frm.Turn.refl [] w4).alloc (.cells #[.int .i64 r, .int .i64 u] 25)).keep (hT.keep Ha3.out (by simp)) (by simp)); have Hb4 := Lib.hid (((Frm.Turn.refl [] w4).alloc (.cells #[.int .i64 r, .int .i64 u] 25)).keep (hT.keep Hb3.out (by simp)) (by simp)); have Hc4 := Lib.hid (((Frm.Turn.refl [] w4).alloc (.cells #[.int .i64 r, .int .i64 u] 25)).keep (hT.keep Hc3.out (by simp)) (by simp)); have Hd4 := Lib.hid (World.alloc_heap_new w4 (.cells #[.int .i64 r, .int .i64 u] 25)); clear hT))
  have HZ : Hid (∀ W', Frm.Turn [] (w4.alloc (.cells #[.int .i64 r, .int .i64 u] 25)) W' → (W').cell? ⟨w.heap.size, 0, none⟩ = some (.int .i64 c) ∧ (W').cell? ⟨w.heap.size, 1, none⟩ = some (.int .i64 k) ∧ (W').cell? ⟨w.heap.size, 2, none⟩ = some (.int .i64 a) ∧ (W').cell? ⟨w.heap.size, 3, none⟩ = some (.int .i64 b) ∧ (W').cell? ⟨w.heap.size + 1, 0, none⟩ = some (.int .i64 p) ∧ (W').cell? ⟨w.heap.size + 1, 1, none⟩ = some (.int .i64 v) ∧ (W').cell? ⟨w1.heap.size, 0, none⟩ = some (.int .i64 d) ∧ (W').cell? ⟨w1.heap.size, 1, none⟩ = some (.int .i64 l) ∧ (W').cell? ⟨w1.heap.size, 2, none⟩ = some (.int .i64 x) ∧ (W').cell? ⟨w1.heap.size, 3, none⟩ = some (.int .i64 y) ∧ (W').cell? ⟨w2.heap.size, 0, none⟩ = some (.int .i64 d) ∧ (W').cell? ⟨w2.heap.size, 1, none⟩ = some (.int .i64 l) ∧ (W').cell? ⟨w2.heap.size, 2, none⟩ = some (.int .i64 x) ∧ (W').cell? ⟨w2.heap.size, 3, none⟩ = some (.int .i64 y) ∧ (W').cell? ⟨w3.heap.size, 0, none⟩ = some (.int .i64 r) ∧ (W').cell? ⟨w3.heap.size, 1, none⟩ = some (.int .i64 u) ∧ (W').cell? ⟨w4.heap.size, 0, none⟩ = some (.int .i64 r) ∧ (W').cell? ⟨w4.heap.size, 1, none⟩ = some (.int .i64 u)) := by
    refine Lib.hid (fun W' hT => ?_)
    obtain ⟨h0, h1, h2, h3, g0, g1⟩ := HS.out _ (T4.out.trans hT (by simp))
    obtain ⟨⟨a0, a1, a2, a3⟩, _⟩ := blk4 (hT.keep Ha4.out (by simp))
    obtain ⟨⟨b0, b1, b2, b3⟩, _⟩ := blk4 (hT.keep Hb4.out (by simp))
    obtain ⟨⟨c0, c1⟩, _⟩ := blk2 (hT.keep Hc4.out (by simp))
    obtain ⟨⟨d0, d1⟩, _⟩ := blk2 (hT.keep Hd4.out (by simp))
    exact ⟨h0, h1, h2, h3, g0, g1, a0, a1, a2, a3, b0, b1, b2, b3, c0, c1, d0, d1⟩
  have T4d : Hid (Frm.Turn [] (w4.alloc (.cells #[.int .i64 r, .int .i64 u] 25)) ((w4.alloc (.cells #[.int .i64 r, .int .i64 u] 25))).drew) := Lib.hid ((Frm.Turn.refl [] _).drew)
  have K4 := Lib.hid (fun W' (hT : Frm.Turn [] (w4.alloc (.cells #[.int .i64 r, .int .i64 u] 25)) W') => K.out _ (T4.out.trans hT (by simp)))
  have C4 := Lib.hid (fun W' (hT : Frm.Turn [] (w4.alloc (.cells #[.int .i64 r, .int .i64 u] 25)) W') => CL.out _ (T4.out.trans hT (by simp)))
  clear T0 T1 T2 T3 T4 Ha1 Ha2 Ha3 Ha4 Hb2 Hb3 Hb4 Hc3 Hc4 Hd4 HS K CL P0 Q1 Q2 Q3 Q4
  go_region_held3 (fun W' => (W').cell? ⟨w.heap.size, 0, none⟩ = some (.int .i64 c) ∧ (W').cell? ⟨w.heap.size, 1, none⟩ = some (.int .i64 k) ∧ (W').cell? ⟨w.heap.size, 2, none⟩ = some (.int .i64 a) ∧ (W').cell? ⟨w.heap.size, 3, none⟩ = some (.int .i64 b) ∧ (W').cell? ⟨w.heap.size + 1, 0, none⟩ = some (.int .i64 p) ∧ (W').cell? ⟨w.heap.size + 1, 1, none⟩ = some (.int .i64 v) ∧ (W').cell? ⟨w1.heap.size, 0, none⟩ = some (.int .i64 d) ∧ (W').cell? ⟨w1.heap.size, 1, none⟩ = some (.int .i64 l) ∧ (W').cell? ⟨w1.heap.size, 2, none⟩ = some (.int .i64 x) ∧ (W').cell? ⟨w1.heap.size, 3, none⟩ = some (.int .i64 y) ∧ (W').cell? ⟨w2.heap.size, 0, none⟩ = some (.int .i64 d) ∧ (W').cell? ⟨w2.heap.size, 1, none⟩ = some (.int .i64 l) ∧ (W').cell? ⟨w2.heap.size, 2, none⟩ = some (.int .i64 x) ∧ (W').cell? ⟨w2.heap.size, 3, none⟩ = some (.int .i64 y) ∧ (W').cell? ⟨w3.heap.size, 0, none⟩ = some (.int .i64 r) ∧ (W').cell? ⟨w3.heap.size, 1, none⟩ = some (.int .i64 u) ∧ (W').cell? ⟨w4.heap.size, 0, none⟩ = some (.int .i64 r) ∧ (W').cell? ⟨w4.heap.size, 1, none⟩ = some (.int .i64 u))
    (first | exact HZ.out _ T4d.out | exact HZ.out _ R1.out | exact HZ.out _ R2.out | exact HZ.out _ R3.out | exact HZ.out _ R4.out | go_keep)
    (first
      | (go_at_call 27; (with_reducible refine (Q8.out _).mono ?_); rintro e r4 ⟨rfl, hT⟩; have R4 := Lib.hid (R3.out.trans hT (by simp)); clear hT)
      | (go_at_call 26; (with_reducible refine (Q7.out _ (K4.out _ R2.out)).mono ?_); rintro e r3 ⟨rfl, hT⟩; have R3 := Lib.hid (R2.out.trans hT (by simp)); clear hT)
      | (go_at_call 25; (with_reducible refine (Q6.out _).mono ?_); rintro e r2 ⟨rfl, hT⟩; have R2 := Lib.hid (R1.out.trans hT (by simp)); clear hT)
      | (go_at_call 24; (with_reducible refine (Q5.out _ (K4.out _ T4d.out)).mono ?_); rintro e r1 ⟨rfl, hT⟩; have R1 := Lib.hid (T4d.out.trans hT (by simp)); clear hT))
  go_wp2
  go_ret
  exact ⟨by simp, C4.out _ R4.out⟩
end Ops
end Go.Proofs.YtlfejjegegdbnaaDoor
