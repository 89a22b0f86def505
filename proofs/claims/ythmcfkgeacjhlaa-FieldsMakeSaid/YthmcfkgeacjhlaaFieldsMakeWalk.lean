/- The walk of law FieldsMake: it returns true for all words, and leaves the world as it was. -/
import Derived.Test.YthmcfkgeacjhlaaFieldsRefs
namespace Go.Proofs.Ythmcfkgeacjhlaa
namespace Fld
open Go.RowKit

theorem hval_ne (a b : Int) : (hVal a b != 0) = hOk a b := by
  unfold hVal
  cases h : hOk a b
  · simp
  · simp [hOk] at h
    simp; omega

theorem make_any (a b : Int) (w : World) (ha : W64 a) (hb : W64 b) :
    Calls Try.prog 3 #[.int .u64 a, .int .u64 b] w fun e w' => e = .returned (.bool true) ∧ w = w' := by
  have hv := hval_ne a b
  go_enter Try.func3, Try.ntmps3
  go_wp2_with (first
    | (go_at_call 7; (with_reducible refine (first_any _).mono ?_); rintro e w' ⟨rfl, rfl⟩)
    | (go_at_call 8; (with_reducible refine (handle_any _ _ _ ha hb).mono ?_); rintro e w' ⟨rfl, rfl⟩)
    | (go_at_call 9; (with_reducible refine (root_any _ _ _ ha hb).mono ?_); rintro e w' ⟨rfl, rfl⟩)
    | (go_at_call 10; (with_reducible refine (note_any _ _ _ ha hb).mono ?_); rintro e w' ⟨rfl, rfl⟩)
    | (go_at_call 11; (with_reducible refine (refhandle_any _ _ _ ha hb).mono ?_); rintro e w' ⟨rfl, rfl⟩)
    | (go_at_call 12; (with_reducible refine (refroot_any _ _ _ ha hb).mono ?_); rintro e w' ⟨rfl, rfl⟩)
    | (go_at_call 13; (with_reducible refine (refnote_any _ _ _ ha hb).mono ?_); rintro e w' ⟨rfl, rfl⟩)
    | (go_at_call 14; (with_reducible refine (right_any _ _ ha).mono ?_); rintro e w' ⟨rfl, rfl⟩)
    | (go_at_call 15; (with_reducible refine (refright_any _ _ ha).mono ?_); rintro e w' ⟨rfl, rfl⟩))
  go_ret
  exact ⟨rfl, rfl⟩
end Fld
end Go.Proofs.Ythmcfkgeacjhlaa
