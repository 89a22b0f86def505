/- A model's calls: New, Size, Queue, Pairs, Sems, of one and of none. -/
import Derived.Test.YtmodanjblbaedaaDoorModelPairs
import Derived.Test.YtmodanjblbaedaaDoorModelApply2
import Derived.Deep.RegionHeld3
import Derived.Deep.DrawnRows
import Derived.Outline
set_option linter.unusedVariables false
set_option linter.unusedSimpArgs false
namespace Go.Proofs.YtmodanjblbaedaaDoor
namespace Mdl
open Go.RowKit Go.Maps Go.Shelf Go.Lib Go.Sort

theorem new_at (w : World) : MAt (w.alloc (.cells #[.slice none 0 0, .map none, .map none] 59)) w.heap.size .new [w.heap.size] := by
  refine ⟨.slice none 0 0, none, none, by simp [foot, Value.ownBlock], mok_new, World.alloc_heap_new w _, qat_nil _, tat_nil _, tat_nil _, by simp [foot, Value.ownBlock]⟩
theorem new_any (w : World) : Calls Tryd.prog 8 #[] w fun e w' => e = .returned (.pointer (some ⟨w.heap.size, 0, none⟩)) ∧ MAt w' w.heap.size .new [w.heap.size] ∧ Frm.Turn [] w w' := by
  go_enter Tryd.func8, Tryd.ntmps8
  go_wp2
  go_ret
  exact ⟨rfl, new_at w, (Frm.Turn.refl _ _).alloc _⟩

set_option maxRecDepth 10000 in
set_option maxHeartbeats 2000000 in
theorem size_any {w : World} {b : Nat} {m : Mo} {F : List Nat} (h : MAt w b m F) :
    Calls Tryd.prog 15 #[.pointer (some ⟨b, 0, none⟩)] w fun e w' => e = .returned (.int .i64 (m.size : Int)) ∧ Frm.Turn [] w w' := by
  obtain ⟨qv, pd, ps, rfl, h⟩ := h
  obtain ⟨ao, c, rfl⟩ := h.q.form
  have c0 := h.c0
  have c1 := h.c1
  have c2 := h.c2
  have l1 := fun n => (h.d.step ((Frm.Turn.refl [] w).drewN n)).len 3
  have l2 := fun n => (h.s.step ((Frm.Turn.refl [] w).drewN n)).len 3
  have b0 := h.ok.few
  have b1 := cnt_le m.d
  have b2 := cnt_le m.s
  have HR : Hid ((m.size : Int) = (m.q.length : Int) + (cnt m.d : Int) + (cnt m.s : Int)) := Lib.hid (by unfold Mo.size; omega)
  generalize cnt m.d = x at *
  generalize cnt m.s = y at *
  generalize hq : m.q.length = n at *
  have s1 : IntKind.i64.wrap ((n : Int) + (x : Int)) = (n : Int) + (x : Int) := by simp [IntKind.wrap, IntKind.bits, IntKind.signed]; omega
  have s2 : IntKind.i64.wrap ((n : Int) + (x : Int) + (y : Int)) = (n : Int) + (x : Int) + (y : Int) := by simp [IntKind.wrap, IntKind.bits, IntKind.signed]; omega
  clear h b0 b1 b2 hq
  go_enter Tryd.func15, Tryd.ntmps15
  go_wp2
  go_quiet (fail)
  go_wp2
  go_ret
  exact ⟨by rw [HR.out]; first | rfl | (congr 2; omega), (Frm.Turn.refl [] w).drewN _⟩
theorem size_none (w : World) : Calls Tryd.prog 15 #[.pointer none] w fun e w' => e = .returned (.int .i64 0) ∧ w = w' := by
  go_enter Tryd.func15, Tryd.ntmps15
  go_wp2
  go_ret
  exact ⟨rfl, rfl⟩
theorem queue_any {w : World} {b : Nat} {m : Mo} {F : List Nat} (h : MAt w b m F) :
    Calls Tryd.prog 16 #[.pointer (some ⟨b, 0, none⟩)] w fun e w' => ∃ v, e = .returned v ∧ QAt w' v m.q ∧ (∀ k, v.ownBlock = some k → w.heap.size ≤ k) ∧ Frm.Turn [] w w' := by
  obtain ⟨qv, pd, ps, rfl, h⟩ := h
  have HC := Lib.hid (sclone_any h.q (by have := h.ok.few; omega))
  obtain ⟨ao, c, rfl⟩ := h.q.form
  have c0 := h.c0
  clear h
  go_enter Tryd.func16, Tryd.ntmps16
  go_wp2_with (go_at_call 22; (with_reducible refine (HC.out).mono ?_); rintro e w1 ⟨v, rfl, h1⟩; have H1 := Lib.hid h1; clear h1)
  go_ret
  exact ⟨_, rfl, H1.out⟩
theorem queue_none (w : World) : Calls Tryd.prog 16 #[.pointer none] w fun e w' => e = .returned (.slice none 0 0) ∧ w = w' := by
  go_enter Tryd.func16, Tryd.ntmps16
  go_wp2
  go_ret
  exact ⟨rfl, rfl⟩
theorem mpairs_any {w : World} {b : Nat} {m : Mo} {F : List Nat} (h : MAt w b m F) :
    Calls Tryd.prog 17 #[.pointer (some ⟨b, 0, none⟩)] w (PairsEnd w m.d) := by
  obtain ⟨qv, pd, ps, rfl, h⟩ := h
  have HC := Lib.hid (pairs_any h.d)
  have c1 := h.c1
  clear h
  go_enter Tryd.func17, Tryd.ntmps17
  go_wp2_with (go_at_call 38; (with_reducible refine (HC.out).mono ?_); rintro e w1 ⟨v, rfl, h1⟩; have H1 := Lib.hid h1; clear h1)
  go_ret
  exact ⟨_, rfl, H1.out⟩
theorem msems_any {w : World} {b : Nat} {m : Mo} {F : List Nat} (h : MAt w b m F) :
    Calls Tryd.prog 18 #[.pointer (some ⟨b, 0, none⟩)] w (PairsEnd w m.s) := by
  obtain ⟨qv, pd, ps, rfl, h⟩ := h
  have HC := Lib.hid (pairs_any h.s)
  have c2 := h.c2
  clear h
  go_enter Tryd.func18, Tryd.ntmps18
  go_wp2_with (go_at_call 38; (with_reducible refine (HC.out).mono ?_); rintro e w1 ⟨v, rfl, h1⟩; have H1 := Lib.hid h1; clear h1)
  go_ret
  exact ⟨_, rfl, H1.out⟩
theorem mpairs_none (w : World) : Calls Tryd.prog 17 #[.pointer none] w fun e w' => e = .returned (.slice none 0 0) ∧ w = w' := by
  go_enter Tryd.func17, Tryd.ntmps17
  go_wp2
  go_ret
  exact ⟨rfl, rfl⟩
theorem msems_none (w : World) : Calls Tryd.prog 18 #[.pointer none] w fun e w' => e = .returned (.slice none 0 0) ∧ w = w' := by
  go_enter Tryd.func18, Tryd.ntmps18
  go_wp2
  go_ret
  exact ⟨rfl, rfl⟩
theorem clone_none (w : World) : Calls Tryd.prog 9 #[.pointer none] w fun e w' => e = .returned (.pointer none) ∧ w = w' := by
  go_enter Tryd.func9, Tryd.ntmps9
  go_wp2
  go_ret
  exact ⟨rfl, rfl⟩
end Mdl
end Go.Proofs.YtmodanjblbaedaaDoor
