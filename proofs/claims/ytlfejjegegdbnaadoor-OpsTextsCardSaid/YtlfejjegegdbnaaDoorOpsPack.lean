/- Pack, PackResp, Unpack, UnpackResp: contracts of the calls. -/
import Derived.Test.YtlfejjegegdbnaaDoorOpsTexts
import Derived.Test.YtlfejjegegdbnaaDoorOpsWords
set_option linter.unusedVariables false
set_option linter.unusedSimpArgs false
namespace Go.Proofs.YtlfejjegegdbnaaDoor
namespace Ops
open Go.RowKit Go.Lib

set_option maxRecDepth 100000 in
set_option maxHeartbeats 2000000 in
theorem pack_any (c k a b : Int) (w : World) (hk : Kn w) :
    Calls Tryd.prog 8 #[.agg #[.int .i64 c, .int .i64 k, .int .i64 a, .int .i64 b]] w fun e w' => e = .returned (.tuple #[.int .u64 (opP c k a b), .bool (opT.rightB c k a b)]) ∧ Frm.Turn [] w w' := by
  have HT := Lib.hid ((Frm.Turn.refl [] w).alloc (.cells #[.int .i64 c, .int .i64 k, .int .i64 a, .int .i64 b] 23))
  have HR := Lib.hid (right_any c k a b (w.alloc (.cells #[.int .i64 c, .int .i64 k, .int .i64 a, .int .i64 b] 23)) (hk.turn HT.out))
  have HB : Hid ((w.alloc (.cells #[.int .i64 c, .int .i64 k, .int .i64 a, .int .i64 b] 23)).heap[w.heap.size]? = some (.cells #[.int .i64 c, .int .i64 k, .int .i64 a, .int .i64 b] 23 (0, 0))) := Lib.hid (World.alloc_heap_new w _)
  cases hr : opT.rightB c k a b
  · have HX : Hid (opP c k a b = 0) := Lib.hid (by unfold opP; rw [hr]; rfl)
    rw [hr] at HR
    clear hr hk
    go_enter Tryd.func8, Tryd.ntmps8
    go_wp2_with (go_at_call 10; (with_reducible refine (HR.out).mono ?_); rintro e w1 ⟨rfl, hT⟩; have HT1 := Lib.hid ((HT.out).trans hT (by simp)); clear hT)
    go_ret2
    exact ⟨by rw [HX.out]; rfl, HT1.out⟩
  · have HX : Hid (opP c k a b = opN c k a b) := Lib.hid (by unfold opP; rw [hr]; rfl)
    obtain ⟨⟨c0, c1⟩, ⟨k0, k1⟩, ⟨a0, a1⟩, b0, b1⟩ := op_range hr
    have o1 := or_op1 c k ⟨c0, c1⟩ ⟨k0, k1⟩
    have o2 := or_op2 c k a ⟨c0, c1⟩ ⟨k0, k1⟩ ⟨a0, a1⟩
    have o3 := or_op3 c k a b ⟨c0, c1⟩ ⟨k0, k1⟩ ⟨a0, a1⟩ ⟨b0, b1⟩
    rw [hr] at HR
    clear hr hk
    go_enter Tryd.func8, Tryd.ntmps8
    go_wp2_with (go_at_call 10; (with_reducible refine (HR.out).mono ?_); rintro e w1 ⟨rfl, hT⟩; obtain ⟨d0, d1, d2, d3⟩ := otext_cells (hT.keep HB.out (by simp)); have HT1 := Lib.hid ((HT.out).trans hT (by simp)); clear hT)
    go_ret2
    exact ⟨by rw [HX.out]; rfl, HT1.out⟩

set_option maxRecDepth 100000 in
set_option maxHeartbeats 2000000 in
theorem packResp_any (k v : Int) (w : World) (hk : Kn w) :
    Calls Tryd.prog 9 #[.agg #[.int .i64 k, .int .i64 v]] w fun e w' => e = .returned (.tuple #[.int .u64 (respP k v), .bool (respT.rightB k v 0 0)]) ∧ Frm.Turn [] w w' := by
  have HT := Lib.hid ((Frm.Turn.refl [] w).alloc (.cells #[.int .i64 k, .int .i64 v] 25))
  have HR := Lib.hid (rightResp_any k v (w.alloc (.cells #[.int .i64 k, .int .i64 v] 25)) (hk.turn HT.out))
  have HB : Hid ((w.alloc (.cells #[.int .i64 k, .int .i64 v] 25)).heap[w.heap.size]? = some (.cells #[.int .i64 k, .int .i64 v] 25 (0, 0))) := Lib.hid (World.alloc_heap_new w _)
  cases hr : respT.rightB k v 0 0
  · have HX : Hid (respP k v = 0) := Lib.hid (by unfold respP; rw [hr]; rfl)
    rw [hr] at HR
    clear hr hk
    go_enter Tryd.func9, Tryd.ntmps9
    go_wp2_with (go_at_call 12; (with_reducible refine (HR.out).mono ?_); rintro e w1 ⟨rfl, hT⟩; have HT1 := Lib.hid ((HT.out).trans hT (by simp)); clear hT)
    go_ret2
    exact ⟨by rw [HX.out]; rfl, HT1.out⟩
  · have HX : Hid (respP k v = respN k v) := Lib.hid (by unfold respP; rw [hr]; rfl)
    obtain ⟨⟨k0, k1⟩, v0, v1⟩ := resp_range hr
    have o1 := or28 k v k0 (by omega) v0 v1
    rw [hr] at HR
    clear hr hk
    go_enter Tryd.func9, Tryd.ntmps9
    go_wp2_with (go_at_call 12; (with_reducible refine (HR.out).mono ?_); rintro e w1 ⟨rfl, hT⟩; obtain ⟨d0, d1⟩ := rtext_cells (hT.keep HB.out (by simp)); have HT1 := Lib.hid ((HT.out).trans hT (by simp)); clear hT)
    go_ret2
    exact ⟨by rw [HX.out]; rfl, HT1.out⟩
end Ops
end Go.Proofs.YtlfejjegegdbnaaDoor
