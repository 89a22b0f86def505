/- DirMeets: the paths of two slots of one segment meet, and go on together. -/
import Derived.Test.YtmjdcpcndggflaaDirFirst
import Derived.Deep.QuietTactic
import Derived.BigQuiet
set_option linter.unusedVariables false
set_option linter.unusedSimpArgs false
namespace Go.Proofs.Ytmjdcpcndggflaa
namespace Dr
open Go.RowKit

/-! ### paths, in numbers -/
theorem len_pos {N : Int} (h0 : 1 ≤ N) (h1 : N ≤ 255) : ∃ k : Nat, Go.Lib.bitLen N.toNat = k + 1 ∧ k ≤ 7 ∧ segN N = k := by
  have hr := seg_range ⟨N.toNat, by omega⟩ (by show 1 ≤ N.toNat; omega)
  have hr' : 1 ≤ Go.Lib.bitLen N.toNat ∧ Go.Lib.bitLen N.toNat ≤ 8 := hr
  refine ⟨Go.Lib.bitLen N.toNat - 1, by omega, by omega, ?_⟩
  unfold segN
  omega
theorem nd_top {N : Int} (h0 : 1 ≤ N) (h1 : N ≤ 255) {k : Nat} (hk : Go.Lib.bitLen N.toNat = k + 1) (h7 : k ≤ 7) : nd N k = 1 := by
  have p0 := (nd_pos (N := N) (by omega) h1 (k := k) (by omega)).2 (by omega)
  have p1 : ¬ 1 ≤ nd N (k + 1) := fun h => by
    have := (nd_pos (N := N) (by omega) h1 (k := k + 1) (by omega)).1 h
    omega
  rw [nd_half] at p1
  omega
/-- Where two paths have met they go on together. -/
theorem nd_same {A B : Int} {i j : Nat} (h : nd A i = nd B i) (hij : i ≤ j) : nd A j = nd B j := by
  induction j with
  | zero => obtain rfl : i = 0 := by omega
            exact h
  | succ j ih =>
    rcases Nat.lt_or_ge i (j + 1) with hl | hg
    · rw [nd_half, nd_half, ih (by omega)]
    · obtain rfl : i = j + 1 := by omega
      exact h
def Met (A B : Int) (j : Nat) (t : Bool) : Prop := t = true ↔ ∃ i, i < j ∧ nd A i = nd B i
theorem met_zero (A B : Int) : Met A B 0 false := ⟨fun h => (by cases h), fun ⟨i, hi, _⟩ => (by omega)⟩
theorem met_same {A B : Int} {j : Nat} {t : Bool} (h : Met A B j t) (ht : t = true) : nd A j = nd B j := by
  obtain ⟨i, hi, e⟩ := h.1 ht
  exact nd_same e (by omega)
theorem met_yes {A B : Int} {j : Nat} (e : nd A j = nd B j) : Met A B (j + 1) true := ⟨fun _ => ⟨j, by omega, e⟩, fun _ => rfl⟩
theorem met_no {A B : Int} {j : Nat} (h : Met A B j false) (e : nd A j ≠ nd B j) : Met A B (j + 1) false := ⟨fun h => by (cases h), fun ⟨i, hi, e'⟩ => by
  rcases Nat.lt_or_ge i j with hl | hg
  · exact h.2 ⟨i, hl, e'⟩
  · obtain rfl : i = j := by omega
    exact absurd e' e⟩
set_option maxRecDepth 100000 in
set_option maxHeartbeats 4000000 in
/-- Where one of the slots is 255. -/
theorem meets_out (a b : Int) (w : World) (a0 : 0 ≤ a) (a1 : a ≤ 255) (b0 : 0 ≤ b) (b1 : b ≤ 255) (h : a = 255 ∨ b = 255) :
    Calls Try.prog 3 #[.int .u8 a, .int .u8 b] w fun e w' => e = .returned (.bool true) ∧ Frm.Turn [] w w' := by
  have HF := Lib.hid (first_any w)
  have h' : (a = 255 ∧ b = 255) ∨ (a = 255 ∧ b ≤ 254) ∨ (a ≤ 254 ∧ b = 255) := by omega
  clear h
  rcases h' with ⟨rfl, rfl⟩ | ⟨rfl, hb⟩ | ⟨ha, rfl⟩
  · clear a0 a1 b0 b1
    have HP := Lib.hid (fun W => Path_no 255 W (.inr (Int.le_refl _)))
    have HS := Lib.hid (fun W => Segment_no 255 W (.inr (Int.le_refl _)))
    go_enter Try.func3, Try.ntmps3
    go_wp2_with (first
      | (go_at_call 4; (with_reducible refine (HF.out).mono ?_); rintro e w1 ⟨rfl, hT⟩; have WT := Lib.hid hT; clear hT)
      | (go_at_call 5; (with_reducible refine (HP.out _).mono ?_); rintro e w2 ⟨rfl, rfl⟩)
      | (go_at_call 6; (with_reducible refine (HS.out _).mono ?_); rintro e w2 ⟨rfl, rfl⟩))
    go_ret
    exact ⟨rfl, WT.out⟩
  · clear a0 a1
    have HP := Lib.hid (fun W => Path_no 255 W (.inr (Int.le_refl _)))
    have HS := Lib.hid (fun W => Segment_no 255 W (.inr (Int.le_refl _)))
    have HQ := Lib.hid (fun W => Path_row b W b0 hb _ rfl)
    have HT := Lib.hid (fun W => Segment_yes b W b0 hb)
    generalize p2 (segN (b + 1)) = p at HT
    generalize segN (b + 1) = s at HT
    generalize Go.Lib.bitLen (b + 1).toNat = K at HQ
    go_enter Try.func3, Try.ntmps3
    go_wp2_with (first
      | (go_at_call 4; (with_reducible refine (HF.out).mono ?_); rintro e w1 ⟨rfl, hT⟩; have WT := Lib.hid hT; clear hT)
      | (go_at_call 5; (with_reducible refine (HP.out _).mono ?_); rintro e w2 ⟨rfl, rfl⟩)
      | (go_at_call 5; (with_reducible refine (HQ.out _).mono ?_); rintro e w2 ⟨g, c, rfl, _, hT⟩; have WT := Lib.hid (WT.out.trans hT (by simp)); clear hT)
      | (go_at_call 6; (with_reducible refine (HS.out _).mono ?_); rintro e w2 ⟨rfl, rfl⟩)
      | (go_at_call 6; (with_reducible refine (HT.out _).mono ?_); rintro e w2 ⟨rfl, rfl⟩))
    go_ret
    exact ⟨rfl, WT.out⟩
  · clear b0 b1
    have HP := Lib.hid (fun W => Path_no 255 W (.inr (Int.le_refl _)))
    have HS := Lib.hid (fun W => Segment_no 255 W (.inr (Int.le_refl _)))
    have HQ := Lib.hid (fun W => Path_row a W a0 ha _ rfl)
    have HT := Lib.hid (fun W => Segment_yes a W a0 ha)
    generalize p2 (segN (a + 1)) = p at HT
    generalize segN (a + 1) = s at HT
    generalize Go.Lib.bitLen (a + 1).toNat = K at HQ
    go_enter Try.func3, Try.ntmps3
    go_wp2_with (first
      | (go_at_call 4; (with_reducible refine (HF.out).mono ?_); rintro e w1 ⟨rfl, hT⟩; have WT := Lib.hid hT; clear hT)
      | (go_at_call 5; (with_reducible refine (HP.out _).mono ?_); rintro e w2 ⟨rfl, rfl⟩)
      | (go_at_call 5; (with_reducible refine (HQ.out _).mono ?_); rintro e w2 ⟨g, c, rfl, _, hT⟩; have WT := Lib.hid (WT.out.trans hT (by simp)); clear hT)
      | (go_at_call 6; (with_reducible refine (HS.out _).mono ?_); rintro e w2 ⟨rfl, rfl⟩)
      | (go_at_call 6; (with_reducible refine (HT.out _).mono ?_); rintro e w2 ⟨rfl, rfl⟩))
    go_ret
    exact ⟨rfl, WT.out⟩
end Dr
end Go.Proofs.Ytmjdcpcndggflaa
