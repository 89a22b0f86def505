/- The walk of law OpsUnpack: it returns true for all numbers. -/
import Derived.Test.YtlfejjegegdbnaaDoorOpsRefs2
import Derived.Test.YtlfejjegegdbnaaDoorOpsLawFirst
set_option linter.unusedVariables false
set_option linter.unusedSimpArgs false
namespace Go.Proofs.YtlfejjegegdbnaaDoor
namespace Ops
open Go.RowKit Go.Lib

set_option maxRecDepth 100000 in
set_option maxHeartbeats 4000000 in
theorem opsUnpack_form (n c k a b p v : Int) (o q : Bool) (w : World) (hk : Kn w) (hn : W64 n) (hu : uAns n = .agg #[.int .i64 c, .int .i64 k, .int .i64 a, .int .i64 b]) (ho : uOk n = o) (hv : vAns n = .agg #[.int .i64 p, .int .i64 v]) (hq : vOk n = q) :
    Calls Tryd.prog 4 #[.int .u64 n] w fun e w' => e = .returned (.bool true) ∧ Frm.Turn [] w w' := by
  have Q1 : Hid (∀ W, Kn W → Calls Tryd.prog 16 #[.int .u64 n] W fun e w' => e = .returned (.tuple #[.agg #[.int .i64 c, .int .i64 k, .int .i64 a, .int .i64 b], .bool o]) ∧ Frm.Turn [] W w') := Lib.hid (fun W h => by rw [← hu, ← ho]; exact unpack_any n W h hn)
  have Q2 : Hid (∀ W, Calls Tryd.prog 17 #[.int .u64 n] W fun e w' => e = .returned (.tuple #[.agg #[.int .i64 c, .int .i64 k, .int .i64 a, .int .i64 b], .bool o]) ∧ Frm.Turn [] W w') := Lib.hid (fun W => by rw [← hu, ← ho]; exact refUnpack_any n W hn)
  have Q3 : Hid (∀ W, Kn W → Calls Tryd.prog 18 #[.int .u64 n] W fun e w' => e = .returned (.tuple #[.agg #[.int .i64 p, .int .i64 v], .bool q]) ∧ Frm.Turn [] W w') := Lib.hid (fun W h => by rw [← hv, ← hq]; exact unpackResp_any n W h hn)
  have Q4 : Hid (∀ W, Calls Tryd.prog 19 #[.int .u64 n] W fun e w' => e = .returned (.tuple #[.agg #[.int .i64 p, .int .i64 v], .bool q]) ∧ Frm.Turn [] W w') := Lib.hid (fun W => by rw [← hv, ← hq]; exact refUnpackResp_any n W hn)
  have P0 := Lib.hid (first_any w hk)
  have K := Lib.hid hk
  clear hk hn hu ho hv hq
  go_enter Tryd.func4, Tryd.ntmps4
  go_wp2_with (first
    | (go_at_call 7; (with_reducible refine (P0.out).mono ?_); rintro e w0 ⟨rfl, hT⟩; have T0 := Lib.hid hT; have P1 := Lib.hid (Q1.out _ (K.out.turn T0.out)); clear hT)
    | (go_at_call 16; (with_reducible refine (P1.out).mono ?_); rintro e w1 ⟨rfl, hT⟩; have T1 := Lib.hid ((T0.out.trans hT (by simp)).alloc (.cells #[.int .i64 c, .int .i64 k, .int .i64 a, .int .i64 b] 23)); have Ha1 := Lib.hid (World.alloc_heap_new w1 (.cells #[.int .i64 c, .int .i64 k, .int .i64 a, .int .i64 b] 23)); have P2 := Lib.hid (Q2.out (w1.alloc (.cells #[.int .i64 c, .int .i64 k, .int .i64 a, .int .i64 b] 23))); clear hT)
    | (go_at_call 17; (with_reducible refine (P2.out).mono ?_); rintro e w2 ⟨rfl, hT⟩; have T2 := Lib.hid ((T1.out.trans hT (by simp)).alloc (.cells #[.int .i64 c, .int .i64 k, .int .i64 a, .int .i64 b] 23)); have Ha2 := Lib.hid (((Frm.Turn.refl [] w2).alloc (.cells #[.int .i64 c, .int .i64 k, .int .i64 a, .int .i64 b] 23)).keep (hT.keep Ha1.out (by simp)) (by simp)); have Hb2 := Lib.hid (World.alloc_heap_new w2 (.cells #[.int .i64 c, .int .i64 k, .int .i64 a, .int .i64 b] 23)); have P3 := Lib.hid (Q3.out _ (K.out.turn T2.out)); clear hT)
    | (go_at_call 18; (with_reducible refine (P3.out).mono ?_); rintro e w3 ⟨rfl, hT⟩; have T3 := Lib.hid ((T2.out.trans hT (by simp)).alloc (.cells #[.int .i64 p, .int .i64 v] 25)); have Ha3 := Lib.hid (((Frm.Turn.refl [] w3).alloc (.cells #[.int .i64 p, .int .i64 v] 25)).keep (hT.keep Ha2.out (by simp)) (by simp)); have Hb3 := Lib.hid (((Frm.Turn.refl [] w3).alloc (.cells #[.int .i64 p, .int .i64 v] 25)).keep (hT.keep Hb2.out (by simp)) (by simp)); have Hc3 := Lib.hid (World.alloc_heap_new w3 (.cells #[.int .i64 p, .int .i64 v] 25)); have P4 := Lib.hid (Q4.out (w3.alloc (.cells #[.int .i64 p, .int .i64 v] 25))); clear hT)
    | (go_at_call 19; (with_reducible refine (P4.out).mono ?_); rintro e w4 ⟨rfl, hT⟩; have T4 := Lib.hid ((T3.out.trans hT (by simp)).alloc (.cells #[.int .i64 p, .int .i64 v] 25)); have Ha4 := Lib.hid (((Frm.Turn.refl [] w4).alloc (.cells #[.int .i64 p, .int .i64 v] 25)).keep (hT.keep Ha3.out (by simp)) (by simp)); have Hb4 := Lib.hid (((Frm.Turn.refl [] w4).alloc (.cells #[.int .i64 p, .int .i64 v] 25)).keep (hT.keep Hb3.out (by simp)) (by simp)); have Hc4 := Lib.hid (((Frm.Turn.refl [] w4).alloc (.cells #[.int .i64 p, .int .i64 v] 25)).keep (hT.keep Hc3.out (by simp)) (by simp)); have Hd4 := Lib.hid (World.alloc_heap_new w4 (.cells #[.int .i64 p, .int .i64 v] 25)); obtain ⟨⟨a0, a1, a2, a3⟩, _⟩ := blk4 Ha4.out; obtain ⟨⟨b0, b1, b2, b3⟩, _⟩ := blk4 Hb4.out; obtain ⟨⟨c0, c1⟩, _⟩ := blk2 Hc4.out; obtain ⟨⟨d0, d1⟩, _⟩ := blk2 Hd4.out; clear hT))
  go_ret
  exact ⟨by simp, T4.out⟩
theorem u64w {a : Int} (h : (Lit.int .u64 a).wf = true) : W64 a := by
  unfold W64
  simp [Lit.wf, IntKind.min, IntKind.max, IntKind.bits, IntKind.signed] at h
  omega
theorem opsUnpack_any (n : Int) (w : World) (hk : Kn w) (hn : W64 n) :
    Calls Tryd.prog 4 #[.int .u64 n] w fun e w' => e = .returned (.bool true) ∧ Frm.Turn [] w w' := by
  have u : ∃ c k a b : Int, uAns n = .agg #[.int .i64 c, .int .i64 k, .int .i64 a, .int .i64 b] := by unfold uAns; split <;> exact ⟨_, _, _, _, rfl⟩
  have v : ∃ p v : Int, vAns n = .agg #[.int .i64 p, .int .i64 v] := by unfold vAns; split <;> exact ⟨_, _, rfl⟩
  obtain ⟨c, k, a, b, hu⟩ := u
  obtain ⟨p, v, hv⟩ := v
  exact opsUnpack_form n c k a b p v _ _ w hk hn hu rfl hv rfl
end Ops
end Go.Proofs.YtlfejjegegdbnaaDoor
