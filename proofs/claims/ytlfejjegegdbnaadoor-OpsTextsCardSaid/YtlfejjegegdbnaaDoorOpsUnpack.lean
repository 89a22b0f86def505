/- Unpack, UnpackResp: contracts of the calls. -/
import Derived.Test.YtlfejjegegdbnaaDoorOpsPack
set_option linter.unusedVariables false
set_option linter.unusedSimpArgs false
namespace Go.Proofs.YtlfejjegegdbnaaDoor
namespace Ops
open Go.RowKit Go.Lib

def uC (n : Int) : Int := n / 268435456
def uK (n : Int) : Int := n / 1048576 % 256
def uA (n : Int) : Int := n / 1024 % 1024
def uB (n : Int) : Int := n % 1024
def uOk (n : Int) : Bool := opT.rightB (uC n) (uK n) (uA n) (uB n)
def vC (n : Int) : Int := n / 268435456
def vV (n : Int) : Int := n % 268435456
def vOk (n : Int) : Bool := respT.rightB (vC n) (vV n) 0 0
/-- What Unpack hands back. -/
def uAns (n : Int) : Value := if uOk n then .agg #[.int .i64 (uC n), .int .i64 (uK n), .int .i64 (uA n), .int .i64 (uB n)] else .agg #[.int .i64 0, .int .i64 0, .int .i64 0, .int .i64 0]
def vAns (n : Int) : Value := if vOk n then .agg #[.int .i64 (vC n), .int .i64 (vV n)] else .agg #[.int .i64 0, .int .i64 0]

theorem blk4 {W : World} {g : Nat} {x0 x1 x2 x3 : Value} {t : TypeId} (h : W.heap[g]? = some (.cells #[x0, x1, x2, x3] t (0, 0))) : (W.cell? ⟨g, 0, none⟩ = some x0 ∧ W.cell? ⟨g, 1, none⟩ = some x1 ∧ W.cell? ⟨g, 2, none⟩ = some x2 ∧ W.cell? ⟨g, 3, none⟩ = some x3) ∧ (W.frozen? ⟨g, 0, none⟩ = false ∧ W.frozen? ⟨g, 1, none⟩ = false ∧ W.frozen? ⟨g, 2, none⟩ = false ∧ W.frozen? ⟨g, 3, none⟩ = false) := by
  refine ⟨⟨?_, ?_, ?_, ?_⟩, Frm.frozen_row _ _ _ _ _ h, Frm.frozen_row _ _ _ _ _ h, Frm.frozen_row _ _ _ _ _ h, Frm.frozen_row _ _ _ _ _ h⟩ <;> (rw [Frm.cell_row _ _ _ _ _ _ h]; rfl)
theorem blk2 {W : World} {g : Nat} {x0 x1 : Value} {t : TypeId} (h : W.heap[g]? = some (.cells #[x0, x1] t (0, 0))) : (W.cell? ⟨g, 0, none⟩ = some x0 ∧ W.cell? ⟨g, 1, none⟩ = some x1) ∧ (W.frozen? ⟨g, 0, none⟩ = false ∧ W.frozen? ⟨g, 1, none⟩ = false) := by
  refine ⟨⟨?_, ?_⟩, Frm.frozen_row _ _ _ _ _ h, Frm.frozen_row _ _ _ _ _ h⟩ <;> (rw [Frm.cell_row _ _ _ _ _ _ h]; rfl)
theorem heap_below (w : World) (o o' : Obj) : ((w.alloc o).alloc o').heap[w.heap.size]? = some o := by
  rw [Below.heap_alloc _ _ _ (by simp)]; exact World.alloc_heap_new w o
theorem heap_last (w : World) (o o' : Obj) : ((w.alloc o).alloc o').heap[w.heap.size + 1]? = some o' := by
  have := World.alloc_heap_new (w.alloc o) o'
  simpa using this

set_option maxRecDepth 100000 in
set_option maxHeartbeats 2000000 in
theorem unpack_any (n : Int) (w : World) (hk : Kn w) (hn : W64 n) :
    Calls Tryd.prog 16 #[.int .u64 n] w fun e w' => e = .returned (.tuple #[uAns n, .bool (uOk n)]) ∧ Frm.Turn [] w w' := by
  obtain ⟨n0, n1⟩ := hn
  have a1 := and255 (n / 1048576) (by omega) (by omega)
  have a2 := and1023 (n / 1024) (by omega) (by omega)
  have a3 := and1023 n (by omega) (by omega)
  have HT := Lib.hid (((Frm.Turn.refl [] w).alloc (.cells #[.int .i64 0, .int .i64 0, .int .i64 0, .int .i64 0] 23)).alloc (.cells #[.int .i64 (n / 268435456), .int .i64 (n / 1048576 % 256), .int .i64 (n / 1024 % 1024), .int .i64 (n % 1024)] 23))
  have HB0 := Lib.hid (heap_below w (.cells #[.int .i64 0, .int .i64 0, .int .i64 0, .int .i64 0] 23) (.cells #[.int .i64 (n / 268435456), .int .i64 (n / 1048576 % 256), .int .i64 (n / 1024 % 1024), .int .i64 (n % 1024)] 23))
  have HB1 := Lib.hid (heap_last w (.cells #[.int .i64 0, .int .i64 0, .int .i64 0, .int .i64 0] 23) (.cells #[.int .i64 (n / 268435456), .int .i64 (n / 1048576 % 256), .int .i64 (n / 1024 % 1024), .int .i64 (n % 1024)] 23))
  have HR := Lib.hid (right_any (n / 268435456) (n / 1048576 % 256) (n / 1024 % 1024) (n % 1024) _ (hk.turn HT.out))
  cases hr : uOk n
  · have HX : Hid (uAns n = .agg #[.int .i64 0, .int .i64 0, .int .i64 0, .int .i64 0]) := Lib.hid (by unfold uAns; rw [hr]; rfl)
    have hr' : opT.rightB (n / 268435456) (n / 1048576 % 256) (n / 1024 % 1024) (n % 1024) = false := hr
    rw [hr'] at HR
    clear hr hk hr'
    go_enter Tryd.func16, Tryd.ntmps16
    go_wp2_with (go_at_call 10; (with_reducible refine (HR.out).mono ?_); rintro e w1 ⟨rfl, hT⟩; obtain ⟨⟨e0, e1, e2, e3⟩, f0, f1, f2, f3⟩ := blk4 (hT.keep HB0.out (by simp)); obtain ⟨⟨g0, g1, g2, g3⟩, i0, i1, i2, i3⟩ := blk4 (hT.keep HB1.out (by simp)); have HT1 := Lib.hid ((HT.out).trans hT (by simp)); clear hT)
    rw [HX.out]
    exact bodyPost_ret (v := .tuple #[.agg #[.int .i64 0, .int .i64 0, .int .i64 0, .int .i64 0], .bool false]) (by simp [results, Tryd.results16, go_sem, e0, e1, e2, e3]) rfl ⟨rfl, ((((HT1.out.setCell (p := ⟨w.heap.size, 0, none⟩) (.inr (Nat.le_refl _)) _).setCell (p := ⟨w.heap.size, 1, none⟩) (.inr (Nat.le_refl _)) _).setCell (p := ⟨w.heap.size, 2, none⟩) (.inr (Nat.le_refl _)) _).setCell (p := ⟨w.heap.size, 3, none⟩) (.inr (Nat.le_refl _)) _)⟩
  · have HX : Hid (uAns n = .agg #[.int .i64 (n / 268435456), .int .i64 (n / 1048576 % 256), .int .i64 (n / 1024 % 1024), .int .i64 (n % 1024)]) := Lib.hid (by unfold uAns; rw [hr]; rfl)
    have hr' : opT.rightB (n / 268435456) (n / 1048576 % 256) (n / 1024 % 1024) (n % 1024) = true := hr
    rw [hr'] at HR
    clear hr hk hr'
    go_enter Tryd.func16, Tryd.ntmps16
    go_wp2_with (go_at_call 10; (with_reducible refine (HR.out).mono ?_); rintro e w1 ⟨rfl, hT⟩; obtain ⟨⟨e0, e1, e2, e3⟩, f0, f1, f2, f3⟩ := blk4 (hT.keep HB0.out (by simp)); obtain ⟨⟨g0, g1, g2, g3⟩, i0, i1, i2, i3⟩ := blk4 (hT.keep HB1.out (by simp)); have HT1 := Lib.hid ((HT.out).trans hT (by simp)); clear hT)
    rw [HX.out]
    exact bodyPost_ret (v := .tuple #[.agg #[.int .i64 (n / 268435456), .int .i64 (n / 1048576 % 256), .int .i64 (n / 1024 % 1024), .int .i64 (n % 1024)], .bool true]) (by simp [results, Tryd.results16, go_sem, e0, e1, e2, e3]) rfl ⟨rfl, ((((HT1.out.setCell (p := ⟨w.heap.size, 0, none⟩) (.inr (Nat.le_refl _)) _).setCell (p := ⟨w.heap.size, 1, none⟩) (.inr (Nat.le_refl _)) _).setCell (p := ⟨w.heap.size, 2, none⟩) (.inr (Nat.le_refl _)) _).setCell (p := ⟨w.heap.size, 3, none⟩) (.inr (Nat.le_refl _)) _)⟩

set_option maxRecDepth 100000 in
set_option maxHeartbeats 2000000 in
theorem unpackResp_any (n : Int) (w : World) (hk : Kn w) (hn : W64 n) :
    Calls Tryd.prog 18 #[.int .u64 n] w fun e w' => e = .returned (.tuple #[vAns n, .bool (vOk n)]) ∧ Frm.Turn [] w w' := by
  obtain ⟨n0, n1⟩ := hn
  have a1 := and28 n (by omega) (by omega)
  have HT := Lib.hid (((Frm.Turn.refl [] w).alloc (.cells #[.int .i64 0, .int .i64 0] 25)).alloc (.cells #[.int .i64 (n / 268435456), .int .i64 (n % 268435456)] 25))
  have HB0 := Lib.hid (heap_below w (.cells #[.int .i64 0, .int .i64 0] 25) (.cells #[.int .i64 (n / 268435456), .int .i64 (n % 268435456)] 25))
  have HB1 := Lib.hid (heap_last w (.cells #[.int .i64 0, .int .i64 0] 25) (.cells #[.int .i64 (n / 268435456), .int .i64 (n % 268435456)] 25))
  have HR := Lib.hid (rightResp_any (n / 268435456) (n % 268435456) _ (hk.turn HT.out))
  cases hr : vOk n
  · have HX : Hid (vAns n = .agg #[.int .i64 0, .int .i64 0]) := Lib.hid (by unfold vAns; rw [hr]; rfl)
    have hr' : respT.rightB (n / 268435456) (n % 268435456) 0 0 = false := hr
    rw [hr'] at HR
    clear hr hk hr'
    go_enter Tryd.func18, Tryd.ntmps18
    go_wp2_with (go_at_call 12; (with_reducible refine (HR.out).mono ?_); rintro e w1 ⟨rfl, hT⟩; obtain ⟨⟨e0, e1⟩, f0, f1⟩ := blk2 (hT.keep HB0.out (by simp)); obtain ⟨⟨g0, g1⟩, i0, i1⟩ := blk2 (hT.keep HB1.out (by simp)); have HT1 := Lib.hid ((HT.out).trans hT (by simp)); clear hT)
    rw [HX.out]
    exact bodyPost_ret (v := .tuple #[.agg #[.int .i64 0, .int .i64 0], .bool false]) (by simp [results, Tryd.results18, go_sem, e0, e1]) rfl ⟨rfl, ((HT1.out.setCell (p := ⟨w.heap.size, 0, none⟩) (.inr (Nat.le_refl _)) _).setCell (p := ⟨w.heap.size, 1, none⟩) (.inr (Nat.le_refl _)) _)⟩
  · have HX : Hid (vAns n = .agg #[.int .i64 (n / 268435456), .int .i64 (n % 268435456)]) := Lib.hid (by unfold vAns; rw [hr]; rfl)
    have hr' : respT.rightB (n / 268435456) (n % 268435456) 0 0 = true := hr
    rw [hr'] at HR
    clear hr hk hr'
    go_enter Tryd.func18, Tryd.ntmps18
    go_wp2_with (go_at_call 12; (with_reducible refine (HR.out).mono ?_); rintro e w1 ⟨rfl, hT⟩; obtain ⟨⟨e0, e1⟩, f0, f1⟩ := blk2 (hT.keep HB0.out (by simp)); obtain ⟨⟨g0, g1⟩, i0, i1⟩ := blk2 (hT.keep HB1.out (by simp)); have HT1 := Lib.hid ((HT.out).trans hT (by simp)); clear hT)
    rw [HX.out]
    exact bodyPost_ret (v := .tuple #[.agg #[.int .i64 (n / 268435456), .int .i64 (n % 268435456)], .bool true]) (by simp [results, Tryd.results18, go_sem, e0, e1]) rfl ⟨rfl, ((HT1.out.setCell (p := ⟨w.heap.size, 0, none⟩) (.inr (Nat.le_refl _)) _).setCell (p := ⟨w.heap.size, 1, none⟩) (.inr (Nat.le_refl _)) _)⟩
end Ops
end Go.Proofs.YtlfejjegegdbnaaDoor
