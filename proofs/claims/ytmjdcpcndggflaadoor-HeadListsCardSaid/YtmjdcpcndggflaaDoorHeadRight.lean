/- Right versions: the calls of layer 8 that layer 9 reaches. -/
import Derived.Test.YtmjdcpcndggflaaDoorLeastFrame
import Derived.Test.YtmjdcpcndggflaaDoorRows
import Derived.Lib.Hide
import Derived.Deep.QuietTactic
import Derived.BigQuiet
set_option linter.unusedVariables false
set_option linter.unusedSimpArgs false
namespace Go.Proofs.YtmjdcpcndggflaaDoor
namespace Drf
open Go.RowKit Go.Maps
def isLenB (n : Int) : Bool := decide (0 ≤ n ∧ n ≤ 256)
theorem isLen_any (n : Int) (w : World) : Calls Tryd.prog 49 #[.int .i64 n] w fun e w' => e = .returned (.bool (isLenB n)) ∧ w = w' := by
  unfold isLenB
  by_cases h0 : 0 ≤ n
  · by_cases h1 : n ≤ 256
    · rw [decide_eq_true (show 0 ≤ n ∧ n ≤ 256 from ⟨h0, h1⟩)]
      have t0 : decide (0 ≤ n) = true := by simpa using h0
      have t1 : decide (n ≤ 256) = true := by simpa using h1
      go_enter Tryd.func49, Tryd.ntmps49
      go_wp2
      go_ret
      exact ⟨rfl, rfl⟩
    · rw [decide_eq_false (show ¬ (0 ≤ n ∧ n ≤ 256) from fun h => h1 h.2)]
      have t0 : decide (0 ≤ n) = true := by simpa using h0
      have t1 : decide (n ≤ 256) = false := by simpa using h1
      go_enter Tryd.func49, Tryd.ntmps49
      go_wp2
      go_ret
      exact ⟨rfl, rfl⟩
  · rw [decide_eq_false (show ¬ (0 ≤ n ∧ n ≤ 256) from fun h => h0 h.1)]
    have t0 : decide (0 ≤ n) = false := by simpa using h0
    go_enter Tryd.func49, Tryd.ntmps49
    go_wp2
    go_ret
    exact ⟨rfl, rfl⟩
def rightV (ml fr ql sl : Int) : Bool := isLenB ml && isLenB ql && isLenB sl && decide (0 ≤ fr) && decide (fr < 256)
set_option maxRecDepth 100000 in
set_option maxHeartbeats 4000000 in
theorem Right_any (m ml q fr ql s sl : Int) (w : World) : Calls Tryd.prog 39 #[.agg #[.int .u64 m, .int .i64 ml, .int .u64 q, .int .i64 fr, .int .i64 ql, .int .u64 s, .int .i64 sl]] w fun e w' => e = .returned (.bool (rightV ml fr ql sl)) ∧ Frm.Turn [] w w' := by
  have HT := Lib.hid (fun o => (Frm.Turn.refl [] w).alloc o)
  have H1 := Lib.hid (fun W => isLen_any ml W)
  have H2 := Lib.hid (fun W => isLen_any ql W)
  have H3 := Lib.hid (fun W => isLen_any sl W)
  unfold rightV
  generalize isLenB ml = b1 at H1 ⊢
  generalize isLenB ql = b2 at H2 ⊢
  generalize isLenB sl = b3 at H3 ⊢
  by_cases h4 : 0 ≤ fr <;> by_cases h5 : fr < 256
  all_goals
    first | have t4 : decide (0 ≤ fr) = true := by simpa using h4 | have t4 : decide (0 ≤ fr) = false := by simpa using h4
    first | have t5 : decide (fr < 256) = true := by simpa using h5 | have t5 : decide (fr < 256) = false := by simpa using h5
    rw [t4, t5]
    clear h4 h5
    cases b1
    · go_enter Tryd.func39, Tryd.ntmps39
      go_wp2_with (first
        | (go_at_call 49; (with_reducible refine (H1.out _).mono ?_); rintro e w1 ⟨rfl, rfl⟩))
      go_ret
      exact ⟨rfl, HT.out _⟩
    · cases b2
      · go_enter Tryd.func39, Tryd.ntmps39
        go_wp2_with (first
          | (go_at_call 49; (with_reducible refine (H1.out _).mono ?_); rintro e w1 ⟨rfl, rfl⟩)
          | (go_at_call 49; (with_reducible refine (H2.out _).mono ?_); rintro e w1 ⟨rfl, rfl⟩))
        go_ret
        exact ⟨rfl, HT.out _⟩
      · cases b3
        all_goals
          go_enter Tryd.func39, Tryd.ntmps39
          go_wp2_with (first
            | (go_at_call 49; (with_reducible refine (H1.out _).mono ?_); rintro e w1 ⟨rfl, rfl⟩)
            | (go_at_call 49; (with_reducible refine (H2.out _).mono ?_); rintro e w1 ⟨rfl, rfl⟩)
            | (go_at_call 49; (with_reducible refine (H3.out _).mono ?_); rintro e w1 ⟨rfl, rfl⟩))
          go_ret
          exact ⟨rfl, HT.out _⟩
theorem rightV_is {ml fr ql sl : Int} : rightV ml fr ql sl = (decide (0 ≤ ml) && decide (ml ≤ 256) && decide (0 ≤ ql) && decide (ql ≤ 256) && decide (0 ≤ sl) && decide (sl ≤ 256) && decide (0 ≤ fr) && decide (fr ≤ 255)) := by
  unfold rightV isLenB
  rw [Bool.eq_iff_iff]
  simp only [Bool.and_eq_true, decide_eq_true_eq]
  omega
set_option maxRecDepth 100000 in
set_option maxHeartbeats 4000000 in
theorem RRight_any (m ml q fr ql s sl : Int) (w : World) : Calls Tryd.prog 27 #[.agg #[.int .u64 m, .int .i64 ml, .int .u64 q, .int .i64 fr, .int .i64 ql, .int .u64 s, .int .i64 sl]] w fun e w' => e = .returned (.bool (rightV ml fr ql sl)) ∧ Frm.Turn [] w w' := by
  have HT := Lib.hid (fun o => (Frm.Turn.refl [] w).alloc o)
  rw [rightV_is]
  obtain ⟨b1, t1⟩ : ∃ b, decide (0 ≤ ml) = b := ⟨_, rfl⟩
  obtain ⟨b2, t2⟩ : ∃ b, decide (ml ≤ 256) = b := ⟨_, rfl⟩
  obtain ⟨b3, t3⟩ : ∃ b, decide (0 ≤ ql) = b := ⟨_, rfl⟩
  obtain ⟨b4, t4⟩ : ∃ b, decide (ql ≤ 256) = b := ⟨_, rfl⟩
  obtain ⟨b5, t5⟩ : ∃ b, decide (0 ≤ sl) = b := ⟨_, rfl⟩
  obtain ⟨b6, t6⟩ : ∃ b, decide (sl ≤ 256) = b := ⟨_, rfl⟩
  obtain ⟨b7, t7⟩ : ∃ b, decide (0 ≤ fr) = b := ⟨_, rfl⟩
  obtain ⟨b8, t8⟩ : ∃ b, decide (fr ≤ 255) = b := ⟨_, rfl⟩
  rw [t1, t2, t3, t4, t5, t6, t7, t8]
  cases b1 with
  | false =>
    clear t2 t3 t4 t5 t6 t7 t8
    go_enter Tryd.func27, Tryd.ntmps27
    go_wp2
    go_ret
    exact ⟨by simp, HT.out _⟩
  | true =>
    cases b2 with
    | false =>
      clear t3 t4 t5 t6 t7 t8
      go_enter Tryd.func27, Tryd.ntmps27
      go_wp2
      go_ret
      exact ⟨by simp, HT.out _⟩
    | true =>
      cases b3 with
      | false =>
        clear t4 t5 t6 t7 t8
        go_enter Tryd.func27, Tryd.ntmps27
        go_wp2
        go_ret
        exact ⟨by simp, HT.out _⟩
      | true =>
        cases b4 with
        | false =>
          clear t5 t6 t7 t8
          go_enter Tryd.func27, Tryd.ntmps27
          go_wp2
          go_ret
          exact ⟨by simp, HT.out _⟩
        | true =>
          cases b5 with
          | false =>
            clear t6 t7 t8
            go_enter Tryd.func27, Tryd.ntmps27
            go_wp2
            go_ret
            exact ⟨by simp, HT.out _⟩
          | true =>
            cases b6 with
            | false =>
              clear t7 t8
              go_enter Tryd.func27, Tryd.ntmps27
              go_wp2
              go_ret
              exact ⟨by simp, HT.out _⟩
            | true =>
              cases b7 with
              | false =>
                clear t8
                go_enter Tryd.func27, Tryd.ntmps27
                go_wp2
                go_ret
                exact ⟨by simp, HT.out _⟩
              | true =>
                cases b8 with
                | false =>
                  go_enter Tryd.func27, Tryd.ntmps27
                  go_wp2
                  go_ret
                  exact ⟨by simp, HT.out _⟩
                | true =>
                  go_enter Tryd.func27, Tryd.ntmps27
                  go_wp2
                  go_ret
                  exact ⟨by simp, HT.out _⟩
end Drf
end Go.Proofs.YtmjdcpcndggflaaDoor
