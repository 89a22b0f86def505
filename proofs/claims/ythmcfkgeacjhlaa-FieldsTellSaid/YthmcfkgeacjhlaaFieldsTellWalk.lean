/- The walk of law FieldsTell: it returns true for all words, and leaves the world as it was. -/
import Derived.Test.YthmcfkgeacjhlaaFieldsRefs
namespace Go.Proofs.Ythmcfkgeacjhlaa
namespace Fld
open Go.RowKit

theorem tell_any (a : Int) (w : World) (ha : W64 a) :
    Calls Try.prog 4 #[.int .u64 a] w fun e w' => e = .returned (.bool true) ∧ w = w' := by
  have d1 := w64_div a 1048576 ha (by omega)
  have b0 : 0 ≤ a % 1048576 := Int.emod_nonneg _ (by omega)
  have b1 : a % 1048576 < 1048576 := Int.emod_lt_of_pos _ (by omega)
  have d2 : W64 (a % 1048576 + 1) := ⟨by omega, by omega⟩
  have hw := ha
  obtain ⟨h0, h1⟩ := ha
  go_enter Try.func4, Try.ntmps4
  go_wp2_with (first
    | (go_at_call 7; (with_reducible refine (first_any _).mono ?_); rintro e w' ⟨rfl, rfl⟩)
    | (go_at_call 16; (with_reducible refine (next_any _ _ hw).mono ?_); rintro e w' ⟨rfl, rfl⟩)
    | (go_at_call 12; (with_reducible refine (refroot_any _ _ _ d1 d2).mono ?_); rintro e w' ⟨rfl, rfl⟩)
    | (go_at_call 17; (with_reducible refine (block_any _ _ hw).mono ?_); rintro e w' ⟨rfl, rfl⟩)
    | (go_at_call 18; (with_reducible refine (birth_any _ _ hw).mono ?_); rintro e w' ⟨rfl, rfl⟩)
    | (go_at_call 19; (with_reducible refine (turn_any _ _ hw).mono ?_); rintro e w' ⟨rfl, rfl⟩)
    | (go_at_call 20; (with_reducible refine (top_any _ _ hw).mono ?_); rintro e w' ⟨rfl, rfl⟩)
    | (go_at_call 21; (with_reducible refine (body_any _ _ hw).mono ?_); rintro e w' ⟨rfl, rfl⟩)
    | (go_at_call 22; (with_reducible refine (seq_any _ _ hw).mono ?_); rintro e w' ⟨rfl, rfl⟩))
  go_ret
  exact ⟨rfl, rfl⟩
end Fld
end Go.Proofs.Ythmcfkgeacjhlaa
