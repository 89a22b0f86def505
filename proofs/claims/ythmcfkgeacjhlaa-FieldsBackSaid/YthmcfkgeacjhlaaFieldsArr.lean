/- Two arrays of two words in memory: how they are loaded as a whole and held against one another. -/
import Derived.Test.YthmcfkgeacjhlaaFieldsRefs
import Derived.Laws.Rows
namespace Go.Proofs.Ythmcfkgeacjhlaa
namespace Fld
open Go.RowKit
theorem size_arr : (Try.prog.info? 31).map (·.size) = some 2 := by kernel_rfl

theorem load_arr (w : World) (g : Nat) (x y : Value) (h0 : w.cell? ⟨g, 0, none⟩ = some x) (h1 : w.cell? ⟨g, 1, none⟩ = some y) :
    (loadVar 31 ⟨g, 0, none⟩).run Try.prog w = .ok (.agg #[x, y]) w := by
  have hl : (loadCells ⟨g, 0, none⟩ 2).run Try.prog w = .ok #[x, y] w :=
    run_loadCells_list (P := Try.prog) w ⟨g, 0, none⟩ [x, y] (fun j v hv => by
      have hadd : (⟨g, 0, none⟩ : Addr).add j = ⟨g, j, none⟩ := by unfold Addr.add; split <;> simp_all
      rw [hadd]
      match j, hv with
      | 0, hv => simpa [h0] using hv
      | 1, hv => simpa [h1] using hv)
  have hi := size_arr
  cases hq : Try.prog.info? 31 with
  | none => simp [hq] at hi
  | some i =>
    have hs : i.size = 2 := by simpa [hq] using hi
    have hagg : (isAgg 31).run Try.prog w = .ok true w := by
      unfold isAgg
      rw [Sem.run_bind, run_underlying Try.underlying31 w]
      simp
    simp [loadVar, Sem.run_bind, hagg, sizeOf, typeInfo, hq, hs, hl]

theorem info_u64 : (Try.prog.info? 22).map (·.size) = some 1 := by kernel_rfl
theorem size_u64 (w : World) : (sizeOf 22).run Try.prog w = .ok 1 w := by
  have hi := info_u64
  cases hq : Try.prog.info? 22 with
  | none => simp [hq] at hi
  | some i =>
    have hs : i.size = 1 := by simpa [hq] using hi
    simp [sizeOf, typeInfo, hq, hs]
theorem equal_arr_at (D : Nat) (w : World) (a0 a1 b0 b1 : Int)
    (e0 : ∀ x y : Int, (Op.equalIn D 22 (.int .u64 x) (.int .u64 y)).run Try.prog w = .ok (x == y) w) :
    (Op.equalIn (D + 1) 31 (.agg #[.int .u64 a0, .int .u64 a1]) (.agg #[.int .u64 b0, .int .u64 b1])).run Try.prog w = .ok (a0 == b0 && a1 == b1) w := by
  have p0 : ∀ x y : Int, (part 22 #[.int .u64 x, .int .u64 y] 0).run Try.prog w = .ok (.int .u64 x) w := fun x y => by
    kernel_rfl
  have p1 : ∀ x y : Int, (part 22 #[.int .u64 x, .int .u64 y] 1).run Try.prog w = .ok (.int .u64 y) w := fun x y => by
    kernel_rfl
  simp only [Op.equalIn, Sem.run_bind, run_underlying Try.underlying31, Result.andThen_ok, size_u64, Std.Legacy.Range.forIn_eq_forIn_range', Std.Legacy.Range.size]
  cases h0 : (a0 == b0) <;> cases h1 : (a1 == b1) <;> simp [List.range', Sem.run_bind, p0, p1, e0, h0, h1]
theorem equal_arr (w : World) (a0 a1 b0 b1 : Int) (b : Bool) (h : (a0 == b0 && a1 == b1) = b) :
    (Op.equalIn 10000 31 (.agg #[.int .u64 a0, .int .u64 a1]) (.agg #[.int .u64 b0, .int .u64 b1])).run Try.prog w = .ok b w := by
  rw [← h]
  exact equal_arr_at 9999 w a0 a1 b0 b1 (fun x y => run_equalIn_int w 9998 22 .u64 .u64 x y Try.underlying22)
end Fld
end Go.Proofs.Ythmcfkgeacjhlaa
