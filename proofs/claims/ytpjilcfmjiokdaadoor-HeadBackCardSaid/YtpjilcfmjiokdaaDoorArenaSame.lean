/- Same of two arenas. -/
import Derived.Test.YtpjilcfmjiokdaaDoorArenaEqual
import Derived.Test.YtpjilcfmjiokdaaDoorArenaClone
import Derived.Laws.StructEq
set_option linter.unusedVariables false
set_option linter.unusedSimpArgs false
namespace Go.Proofs.YtpjilcfmjiokdaaDoor
namespace Arn
open Go.RowKit Hp Go.Maps

theorem size_nine : (Tryd.prog.info? 41).map (·.size) = some 9 := by kernel_rfl
theorem under_nine : Tryd.prog.underlying 41 = some (.array 9 22) := by kernel_rfl
theorem load_nine {w : World} {b : Nat} {M : Mem} {A : Ar} (h : ArAt w b M A) : (loadVar 41 ⟨b, 2, none⟩).run Tryd.prog w = .ok (.agg (u64s A.fixed).toArray) w := by
  have hn := h.ok.nine
  have hl : (loadCells ⟨b, 2, none⟩ (u64s A.fixed).length).run Tryd.prog w = .ok (u64s A.fixed).toArray w :=
    run_loadCells_list (P := Tryd.prog) w ⟨b, 2, none⟩ (u64s A.fixed) (fun j v hv => by
      have hadd : (⟨b, 2, none⟩ : Addr).add j = ⟨b, 2 + j, none⟩ := by
        unfold Addr.add; split
        · rename_i e; simp [e]
        · rfl
      rw [hadd]
      simp [u64s] at hv
      obtain ⟨x, hx, rfl⟩ := hv
      exact h.fix hx)
  rw [length_u64s, hn] at hl
  have hi := size_nine
  cases hq : Tryd.prog.info? 41 with
  | none => simp [hq] at hi
  | some i =>
    have hs : i.size = 9 := by simpa [hq] using hi
    have hagg : (isAgg 41).run Tryd.prog w = .ok true w := by
      unfold isAgg
      rw [Sem.run_bind, run_underlying under_nine w]
      simp
    simp [loadVar, Sem.run_bind, hagg, sizeOf, typeInfo, hq, hs, hl]
theorem size_u64 (w : World) : (sizeOf 22).run Tryd.prog w = .ok 1 w := by
  obtain ⟨i, h1, h2, h3, h4⟩ := info_parts info_u64
  simp [sizeOf, typeInfo, h1, h3]
theorem equal_nine_at (D : Nat) (w : World) (a0 a1 a2 a3 a4 a5 a6 a7 a8 b0 b1 b2 b3 b4 b5 b6 b7 b8 : Int)
    (e0 : ∀ x y : Int, (Op.equalIn D 22 (.int .u64 x) (.int .u64 y)).run Tryd.prog w = .ok (x == y) w) :
    (Op.equalIn (D + 1) 41 (.agg #[.int .u64 a0, .int .u64 a1, .int .u64 a2, .int .u64 a3, .int .u64 a4, .int .u64 a5, .int .u64 a6, .int .u64 a7, .int .u64 a8]) (.agg #[.int .u64 b0, .int .u64 b1, .int .u64 b2, .int .u64 b3, .int .u64 b4, .int .u64 b5, .int .u64 b6, .int .u64 b7, .int .u64 b8])).run Tryd.prog w
      = .ok (a0 == b0 && (a1 == b1 && (a2 == b2 && (a3 == b3 && (a4 == b4 && (a5 == b5 && (a6 == b6 && (a7 == b7 && a8 == b8)))))))) w := by
  have p0 : ∀ x0 x1 x2 x3 x4 x5 x6 x7 x8 : Int, (part 22 #[.int .u64 x0, .int .u64 x1, .int .u64 x2, .int .u64 x3, .int .u64 x4, .int .u64 x5, .int .u64 x6, .int .u64 x7, .int .u64 x8] 0).run Tryd.prog w = .ok (.int .u64 x0) w := fun _ _ _ _ _ _ _ _ _ => by kernel_rfl
  have p1 : ∀ x0 x1 x2 x3 x4 x5 x6 x7 x8 : Int, (part 22 #[.int .u64 x0, .int .u64 x1, .int .u64 x2, .int .u64 x3, .int .u64 x4, .int .u64 x5, .int .u64 x6, .int .u64 x7, .int .u64 x8] 1).run Tryd.prog w = .ok (.int .u64 x1) w := fun _ _ _ _ _ _ _ _ _ => by kernel_rfl
  have p2 : ∀ x0 x1 x2 x3 x4 x5 x6 x7 x8 : Int, (part 22 #[.int .u64 x0, .int .u64 x1, .int .u64 x2, .int .u64 x3, .int .u64 x4, .int .u64 x5, .int .u64 x6, .int .u64 x7, .int .u64 x8] 2).run Tryd.prog w = .ok (.int .u64 x2) w := fun _ _ _ _ _ _ _ _ _ => by kernel_rfl
  have p3 : ∀ x0 x1 x2 x3 x4 x5 x6 x7 x8 : Int, (part 22 #[.int .u64 x0, .int .u64 x1, .int .u64 x2, .int .u64 x3, .int .u64 x4, .int .u64 x5, .int .u64 x6, .int .u64 x7, .int .u64 x8] 3).run Tryd.prog w = .ok (.int .u64 x3) w := fun _ _ _ _ _ _ _ _ _ => by kernel_rfl
  have p4 : ∀ x0 x1 x2 x3 x4 x5 x6 x7 x8 : Int, (part 22 #[.int .u64 x0, .int .u64 x1, .int .u64 x2, .int .u64 x3, .int .u64 x4, .int .u64 x5, .int .u64 x6, .int .u64 x7, .int .u64 x8] 4).run Tryd.prog w = .ok (.int .u64 x4) w := fun _ _ _ _ _ _ _ _ _ => by kernel_rfl
  have p5 : ∀ x0 x1 x2 x3 x4 x5 x6 x7 x8 : Int, (part 22 #[.int .u64 x0, .int .u64 x1, .int .u64 x2, .int .u64 x3, .int .u64 x4, .int .u64 x5, .int .u64 x6, .int .u64 x7, .int .u64 x8] 5).run Tryd.prog w = .ok (.int .u64 x5) w := fun _ _ _ _ _ _ _ _ _ => by kernel_rfl
  have p6 : ∀ x0 x1 x2 x3 x4 x5 x6 x7 x8 : Int, (part 22 #[.int .u64 x0, .int .u64 x1, .int .u64 x2, .int .u64 x3, .int .u64 x4, .int .u64 x5, .int .u64 x6, .int .u64 x7, .int .u64 x8] 6).run Tryd.prog w = .ok (.int .u64 x6) w := fun _ _ _ _ _ _ _ _ _ => by kernel_rfl
  have p7 : ∀ x0 x1 x2 x3 x4 x5 x6 x7 x8 : Int, (part 22 #[.int .u64 x0, .int .u64 x1, .int .u64 x2, .int .u64 x3, .int .u64 x4, .int .u64 x5, .int .u64 x6, .int .u64 x7, .int .u64 x8] 7).run Tryd.prog w = .ok (.int .u64 x7) w := fun _ _ _ _ _ _ _ _ _ => by kernel_rfl
  have p8 : ∀ x0 x1 x2 x3 x4 x5 x6 x7 x8 : Int, (part 22 #[.int .u64 x0, .int .u64 x1, .int .u64 x2, .int .u64 x3, .int .u64 x4, .int .u64 x5, .int .u64 x6, .int .u64 x7, .int .u64 x8] 8).run Tryd.prog w = .ok (.int .u64 x8) w := fun _ _ _ _ _ _ _ _ _ => by kernel_rfl
  simp only [Op.equalIn, Sem.run_bind, run_underlying under_nine, Result.andThen_ok, size_u64, Std.Legacy.Range.forIn_eq_forIn_range', Std.Legacy.Range.size]
  cases h0 : (a0 == b0)
  · simp [List.range', Sem.run_bind, p0, e0, h0]
  cases h1 : (a1 == b1)
  · simp [List.range', Sem.run_bind, p0, p1, e0, h0, h1]
  cases h2 : (a2 == b2)
  · simp [List.range', Sem.run_bind, p0, p1, p2, e0, h0, h1, h2]
  cases h3 : (a3 == b3)
  · simp [List.range', Sem.run_bind, p0, p1, p2, p3, e0, h0, h1, h2, h3]
  cases h4 : (a4 == b4)
  · simp [List.range', Sem.run_bind, p0, p1, p2, p3, p4, e0, h0, h1, h2, h3, h4]
  cases h5 : (a5 == b5)
  · simp [List.range', Sem.run_bind, p0, p1, p2, p3, p4, p5, e0, h0, h1, h2, h3, h4, h5]
  cases h6 : (a6 == b6)
  · simp [List.range', Sem.run_bind, p0, p1, p2, p3, p4, p5, p6, e0, h0, h1, h2, h3, h4, h5, h6]
  cases h7 : (a7 == b7)
  · simp [List.range', Sem.run_bind, p0, p1, p2, p3, p4, p5, p6, p7, e0, h0, h1, h2, h3, h4, h5, h6, h7]
  cases h8 : (a8 == b8)
  · simp [List.range', Sem.run_bind, p0, p1, p2, p3, p4, p5, p6, p7, p8, e0, h0, h1, h2, h3, h4, h5, h6, h7, h8]
  · simp [List.range', Sem.run_bind, p0, p1, p2, p3, p4, p5, p6, p7, p8, e0, h0, h1, h2, h3, h4, h5, h6, h7, h8]
theorem equal_nine (w : World) (l1 l2 : List Int) (h1 : l1.length = 9) (h2 : l2.length = 9) :
    (Op.equalIn 10000 41 (.agg (u64s l1).toArray) (.agg (u64s l2).toArray)).run Tryd.prog w = .ok (l1 == l2) w := by
  obtain ⟨a0, a1, a2, a3, a4, a5, a6, a7, a8, rfl⟩ := nine_of h1
  obtain ⟨b0, b1, b2, b3, b4, b5, b6, b7, b8, rfl⟩ := nine_of h2
  have hb : ([a0, a1, a2, a3, a4, a5, a6, a7, a8] == [b0, b1, b2, b3, b4, b5, b6, b7, b8]) = (a0 == b0 && (a1 == b1 && (a2 == b2 && (a3 == b3 && (a4 == b4 && (a5 == b5 && (a6 == b6 && (a7 == b7 && a8 == b8)))))))) := by
    simp [List.cons_beq_cons]
  rw [hb]
  exact equal_nine_at 9999 w a0 a1 a2 a3 a4 a5 a6 a7 a8 b0 b1 b2 b3 b4 b5 b6 b7 b8 (fun x y => run_equalIn_int w 9998 22 .u64 .u64 x y under_u64)

def sameAr (A1 A2 : Ar) : Bool := (A1.fixed == A2.fixed) && sameSet A1.L A2.L
attribute [local go_sem ↓] Go.wp_at_zero Go.wp_at_succ
theorem range_nine {w : World} {b : Nat} {M : Mem} {A : Ar} (h : ArAt w b M A) : w.rangeAt b 2 (u64s A.fixed) := fun j v hv => by
  simp [u64s] at hv
  obtain ⟨x, hx, rfl⟩ := hv
  exact h.fix hx
end Arn
end Go.Proofs.YtpjilcfmjiokdaaDoor
