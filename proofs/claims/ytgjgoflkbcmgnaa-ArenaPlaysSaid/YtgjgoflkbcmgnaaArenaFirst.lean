/- first of the laws. -/
import Derived.Test.YtgjgoflkbcmgnaaArenaSin
set_option linter.unusedVariables false
set_option linter.unusedSimpArgs false
namespace Go.Proofs.Ytgjgoflkbcmgnaa
namespace Arn
open Go.RowKit Hp Go.Maps

def f1 : Ar := ⟨3, 1, 2, 0, List.replicate 9 0, [⟨65537, [5, 6]⟩], ⟨1, 0, 0, 0, 0, 0⟩⟩
def f2 : Ar := ⟨3, 1, 2, 0, List.replicate 9 0, [⟨65537, [5, 9]⟩], ⟨1, 0, 0, 0, 0, 1⟩⟩
def f3 : Ar := ⟨3, 1, 2, 0, List.replicate 9 0, [⟨65537, [5, 9]⟩], ⟨1, 0, 1, 0, 0, 1⟩⟩
def f4 : Ar := ⟨3, 1, 2, 0, [0, 0, 0, 0, 0, 0, 0, 0, 7], [⟨65537, [5, 9]⟩], ⟨1, 0, 1, 0, 1, 1⟩⟩
def f5 : Ar := ⟨3, 1, 2, 0, [0, 0, 0, 0, 0, 0, 0, 0, 7], [], ⟨1, 1, 1, 0, 1, 1⟩⟩
def f6 : Ar := ⟨3, 1, 2, 1, [0, 0, 0, 0, 0, 0, 0, 0, 7], [], ⟨1, 1, 1, 0, 1, 1⟩⟩
def f7 : Ar := ⟨3, 1, 2, 2, [0, 0, 0, 0, 0, 0, 0, 0, 7], [], ⟨1, 1, 1, 0, 1, 1⟩⟩
def f8 : Ar := ⟨3, 1, 2, 2, [1, 0, 0, 0, 0, 0, 0, 0, 7], [], ⟨1, 1, 1, 1, 1, 1⟩⟩
theorem e1 : (Ar.new 3).lay [5, 6] = (f1, 65537, 0) := by rfl
theorem e2 : f1.add 65537 1 3 = (f2, 6, 0) := by rfl
theorem e3 : f2.read 65537 1 = (f3, 9, 0) := by rfl
theorem e3' : f3.lay [1, 2] = (f3, 0, 20) := by rfl
theorem e4 : f3.swap 0 8 0 7 = (f4, true, 0) := by rfl
theorem e5 : f4.free 65537 = (f5, 0) := by rfl
theorem e6 : f5.read 65537 0 = (f6, 0, 23) := by rfl
theorem e7 : f6.read 0 9 = (f7, 0, 24) := by rfl
theorem e8 : f7.write 0 0 1 = (f8, 0) := by rfl
/-- Words that were just laid out for a call. -/
theorem words_new (W : World) (x y : Int) : WordsAt (W.alloc (.cells #[.int .u64 x, .int .u64 y] 29)) (.slice (some ⟨W.heap.size, 0, none⟩) 2 2) [x, y] :=
  .inr ⟨⟨W.heap.size, 0, none⟩, 2, rfl, cell_two_new W (.int .u64 x) (.int .u64 y) _⟩
theorem w64_small (x : Int) (h : 0 ≤ x ∧ x ≤ 100000) : W64 x := by unfold W64; omega
set_option maxRecDepth 100000 in
set_option maxHeartbeats 4000000 in
theorem first_any (w : World) : Calls Try.prog 6 #[] w fun e w' => e = .returned (.bool true) ∧ Frm.Turn [] w w' := by
  have HN : Hid (Calls Try.prog 8 #[.int .i64 3] w fun e w' => ∃ b M, e = .returned (.tuple #[.pointer (some ⟨b, 0, none⟩), .int .i64 0]) ∧ Sin w b M (Ar.new 3) 0 w') := Lib.hid (sin_new 3 w (by omega))
  have HL1 : Hid (∀ b M W, Sin w b M (Ar.new 3) 0 W → Calls Try.prog 9 #[.pointer (some ⟨b, 0, none⟩), .slice (some ⟨W.heap.size, 0, none⟩) 2 2] (W.alloc (.cells #[.int .u64 5, .int .u64 6] 29)) fun e w' => e = .returned (.tuple #[.int .u64 65537, .int .i64 0]) ∧ ∃ M', Sin w b M' f1 1 w') :=
    Lib.hid fun b M W h => (sin_lay (h.step ((Frm.Turn.refl [] W).alloc _)) (by omega) (words_new W 5 6) (fun _ k hk hk' => by simp [Value.ownBlock] at hk; subst hk; have := h.lt hk'; omega) (by intro x hx; simp at hx; rcases hx with rfl | rfl <;> exact w64_small _ (by omega))).mono
      (by rw [e1]; rintro e w' ⟨h1, M', h2, _⟩; exact ⟨h1, M', h2⟩)
  have HA : Hid (∀ b M W, Sin w b M f1 1 W → Calls Try.prog 12 #[.pointer (some ⟨b, 0, none⟩), .agg #[.int .u64 65537, .int .i64 1], .int .u64 3] W fun e w' => e = .returned (.tuple #[.int .u64 6, .int .i64 0]) ∧ ∃ M', Sin w b M' f2 2 w') :=
    Lib.hid fun b M W h => (sin_add h (by omega) 65537 1 3 (w64_small _ (by omega)) (by decide) (w64_small _ (by omega))).mono (by rw [e2]; rintro e w' ⟨h1, M', h2, _⟩; exact ⟨h1, M', h2⟩)
  have HR1 : Hid (∀ b M W, Sin w b M f2 2 W → Calls Try.prog 10 #[.pointer (some ⟨b, 0, none⟩), .agg #[.int .u64 65537, .int .i64 1]] W fun e w' => e = .returned (.tuple #[.int .u64 9, .int .i64 0]) ∧ ∃ M', Sin w b M' f3 3 w') :=
    Lib.hid fun b M W h => (sin_read h (by omega) 65537 1 (w64_small _ (by omega)) (by decide)).mono (by rw [e3]; rintro e w' ⟨h1, M', h2, _⟩; exact ⟨h1, M', h2⟩)
  have HL2 : Hid (∀ b M W, Sin w b M f3 3 W → Calls Try.prog 9 #[.pointer (some ⟨b, 0, none⟩), .slice (some ⟨W.heap.size, 0, none⟩) 2 2] (W.alloc (.cells #[.int .u64 1, .int .u64 2] 29)) fun e w' => e = .returned (.tuple #[.int .u64 0, .int .i64 20]) ∧ ∃ M', Sin w b M' f3 4 w') :=
    Lib.hid fun b M W h => (sin_lay (h.step ((Frm.Turn.refl [] W).alloc _)) (by omega) (words_new W 1 2) (fun _ k hk hk' => by simp [Value.ownBlock] at hk; subst hk; have := h.lt hk'; omega) (by intro x hx; simp at hx; rcases hx with rfl | rfl <;> exact w64_small _ (by omega))).mono
      (by rw [e3']; rintro e w' ⟨h1, M', h2, _⟩; exact ⟨h1, M', h2⟩)
  have HS : Hid (∀ b M W, Sin w b M f3 4 W → Calls Try.prog 11 #[.pointer (some ⟨b, 0, none⟩), .agg #[.int .u64 0, .int .i64 8], .int .u64 0, .int .u64 7] W fun e w' => e = .returned (.tuple #[.bool true, .int .i64 0]) ∧ ∃ M', Sin w b M' f4 5 w') :=
    Lib.hid fun b M W h => (sin_swap h (by omega) 0 8 0 7 (w64_small _ (by omega)) (by decide) (w64_small _ (by omega))).mono (by rw [e4]; rintro e w' ⟨h1, M', h2, _⟩; exact ⟨h1, M', h2⟩)
  have HF : Hid (∀ b M W, Sin w b M f4 5 W → Calls Try.prog 13 #[.pointer (some ⟨b, 0, none⟩), .int .u64 65537] W fun e w' => e = .returned (.int .i64 0) ∧ ∃ M', Sin w b M' f5 6 w') :=
    Lib.hid fun b M W h => (sin_free h (by omega) 65537 (w64_small _ (by omega))).mono (by rw [e5]; rintro e w' ⟨h1, M', h2, _⟩; exact ⟨h1, M', h2⟩)
  have HR2 : Hid (∀ b M W, Sin w b M f5 6 W → Calls Try.prog 10 #[.pointer (some ⟨b, 0, none⟩), .agg #[.int .u64 65537, .int .i64 0]] W fun e w' => e = .returned (.tuple #[.int .u64 0, .int .i64 23]) ∧ ∃ M', Sin w b M' f6 7 w') :=
    Lib.hid fun b M W h => (sin_read h (by omega) 65537 0 (w64_small _ (by omega)) (by decide)).mono (by rw [e6]; rintro e w' ⟨h1, M', h2, _⟩; exact ⟨h1, M', h2⟩)
  have HR3 : Hid (∀ b M W, Sin w b M f6 7 W → Calls Try.prog 10 #[.pointer (some ⟨b, 0, none⟩), .agg #[.int .u64 0, .int .i64 9]] W fun e w' => e = .returned (.tuple #[.int .u64 0, .int .i64 24]) ∧ ∃ M', Sin w b M' f7 8 w') :=
    Lib.hid fun b M W h => (sin_read h (by omega) 0 9 (w64_small _ (by omega)) (by decide)).mono (by rw [e7]; rintro e w' ⟨h1, M', h2, _⟩; exact ⟨h1, M', h2⟩)
  have HW : Hid (∀ b M W, Sin w b M f7 8 W → Calls Try.prog 14 #[.pointer (some ⟨b, 0, none⟩), .agg #[.int .u64 0, .int .i64 0], .int .u64 1] W fun e w' => e = .returned (.int .i64 0) ∧ ∃ M', Sin w b M' f8 9 w') :=
    Lib.hid fun b M W h => (sin_write h (by omega) 0 0 1 (w64_small _ (by omega)) (by decide) (w64_small _ (by omega))).mono (by rw [e8]; rintro e w' ⟨h1, M', h2, _⟩; exact ⟨h1, M', h2⟩)
  have HG : Hid (∀ b M W, Sin w b M f7 8 W → (Calls Try.prog 19 #[.pointer (some ⟨b, 0, none⟩)] W fun e w' => e = .returned (.int .i64 2) ∧ W = w') ∧ (Calls Try.prog 16 #[.pointer (some ⟨b, 0, none⟩)] W fun e w' => e = .returned (.int .i64 0) ∧ W = w') ∧
      (Calls Try.prog 17 #[.pointer (some ⟨b, 0, none⟩)] W fun e w' => e = .returned (.int .i64 2) ∧ W = w') ∧ (Calls Try.prog 18 #[.pointer (some ⟨b, 0, none⟩)] W fun e w' => e = .returned (.int .i64 0) ∧ W = w') ∧
      (Calls Try.prog 20 #[.pointer (some ⟨b, 0, none⟩), .int .u64 65537] W fun e w' => e = .returned (.int .i64 0) ∧ W = w') ∧
      (Calls Try.prog 21 #[.pointer (some ⟨b, 0, none⟩)] W fun e w' => ∃ g c, e = .returned (.slice (some ⟨g, 0, none⟩) 9 c) ∧ Sin w b M f7 8 w')) :=
    Lib.hid fun b M W h => ⟨faults_any h.at_, used_any h.at_, peak_any h.at_, len_any h.at_, size_any h.at_ 65537 (w64_small _ (by omega)), (words_any h.at_).mono fun e w' ⟨g, c, h1, _, _, hT⟩ => ⟨g, c, h1, h.step hT⟩⟩
  have HB : Hid (∀ b M W, Sin w b M f8 9 W → Calls Try.prog 22 #[.pointer (some ⟨b, 0, none⟩), .int .i64 9] W fun e w' => ∃ ao c, e = .returned (.slice ao 0 c) ∧ Frm.Turn [] w w') :=
    Lib.hid fun b M W h => (blocks_any h.at_ 9).mono (by
      rintro e w' ⟨v, ys, rfl, hr, hy, _, hT⟩
      have : ys = [] := by simpa [f8] using hy
      subst this
      rcases ownsRow_shape hr with ⟨rfl, _⟩ | ⟨g, cap, rfl, _⟩
      · exact ⟨_, _, rfl, h.turn.trans hT (by simp)⟩
      · exact ⟨_, _, rfl, h.turn.trans hT (by simp)⟩)
  go_enter Try.func6, Try.ntmps6
  go_wp2_with (first
    | (go_at_call 8; (with_reducible refine (HN.out).mono ?_); rintro e w1 ⟨b, M, rfl, h⟩; have H0 := Lib.hid h; clear h)
    | (go_at_call 9; (with_reducible refine (HL1.out _ _ _ H0.out).mono ?_); rintro e w2 ⟨rfl, M1, h⟩; have H1 := Lib.hid h; clear h)
    | (go_at_call 12; (with_reducible refine (HA.out _ _ _ H1.out).mono ?_); rintro e w3 ⟨rfl, M2, h⟩; have H2 := Lib.hid h; clear h)
    | (go_at_call 10; (with_reducible refine (HR1.out _ _ _ H2.out).mono ?_); rintro e w4 ⟨rfl, M3, h⟩; have H3 := Lib.hid h; clear h)
    | (go_at_call 9; (with_reducible refine (HL2.out _ _ _ H3.out).mono ?_); rintro e w5 ⟨rfl, M4, h⟩; have H4 := Lib.hid h; clear h)
    | (go_at_call 11; (with_reducible refine (HS.out _ _ _ H4.out).mono ?_); rintro e w6 ⟨rfl, M5, h⟩; have H5 := Lib.hid h; clear h)
    | (go_at_call 13; (with_reducible refine (HF.out _ _ _ H5.out).mono ?_); rintro e w7 ⟨rfl, M6, h⟩; have H6 := Lib.hid h; clear h)
    | (go_at_call 10; (with_reducible refine (HR2.out _ _ _ H6.out).mono ?_); rintro e w8 ⟨rfl, M7, h⟩; have H7 := Lib.hid h; clear h)
    | (go_at_call 10; (with_reducible refine (HR3.out _ _ _ H7.out).mono ?_); rintro e w9 ⟨rfl, M8, h⟩; have H8 := Lib.hid h; clear h)
    | (go_at_call 19; (with_reducible refine ((HG.out _ _ _ H8.out).1).mono ?_); rintro e w1 ⟨rfl, rfl⟩)
    | (go_at_call 16; (with_reducible refine ((HG.out _ _ _ H8.out).2.1).mono ?_); rintro e w1 ⟨rfl, rfl⟩)
    | (go_at_call 17; (with_reducible refine ((HG.out _ _ _ H8.out).2.2.1).mono ?_); rintro e w1 ⟨rfl, rfl⟩)
    | (go_at_call 18; (with_reducible refine ((HG.out _ _ _ H8.out).2.2.2.1).mono ?_); rintro e w1 ⟨rfl, rfl⟩)
    | (go_at_call 20; (with_reducible refine ((HG.out _ _ _ H8.out).2.2.2.2.1).mono ?_); rintro e w1 ⟨rfl, rfl⟩)
    | (go_at_call 21; (with_reducible refine ((HG.out _ _ _ H8.out).2.2.2.2.2).mono ?_); rintro e w10 ⟨g9, c9, rfl, h⟩; have H9 := Lib.hid h; clear h)
    | (go_at_call 14; (with_reducible refine (HW.out _ _ _ H9.out).mono ?_); rintro e w11 ⟨rfl, M9, h⟩; have H10 := Lib.hid h; clear h)
    | (go_at_call 22; (with_reducible refine (HB.out _ _ _ H10.out).mono ?_); rintro e w12 ⟨ao, c12, rfl, hT⟩; have HT := Lib.hid hT; clear hT))
  go_ret
  exact ⟨rfl, HT.out⟩
end Arn
end Go.Proofs.Ytgjgoflkbcmgnaa
