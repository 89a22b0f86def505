/- The walk of law FieldsBack: it returns true for all pairs of words, and only lays new blocks. -/
import Derived.Test.YthmcfkgeacjhlaaFieldsTurnsWalk
import Derived.Test.YthmcfkgeacjhlaaFieldsArr
import Derived.Deep.QuietTactic
import Derived.BigQuiet
import Derived.Deep.DeepCutAuto
namespace Go.Proofs.Ythmcfkgeacjhlaa
namespace Fld
open Go.RowKit

/-- Where the law's two arrays lie, in a world behind w. -/
def Lie (w : World) (a0 a1 b0 b1 : Int) (x : World) : Prop :=
  x.cell? ⟨w.heap.size, 0, none⟩ = some (.int .u64 a0) ∧ x.cell? ⟨w.heap.size, 1, none⟩ = some (.int .u64 a1) ∧
  x.cell? ⟨w.heap.size + 1, 0, none⟩ = some (.int .u64 b0) ∧ x.cell? ⟨w.heap.size + 1, 1, none⟩ = some (.int .u64 b1) ∧ Grown w x

theorem quiet_at {P : Program} {f : FuncId} {args : Array Value} {w : World} {n : Nat} {v : Value}
    (h : Calls P f args (w.drewN n) fun e w' => e = .returned v ∧ w.drewN n = w') : Calls P f args (w.drewN n) fun e w'' => e = .returned v ∧ ∃ m, w'' = w.drewN m :=
  h.mono fun _ _ ⟨he, hm⟩ => ⟨he, n, hm.symm⟩

theorem hval_yes {a b : Int} (h : hOk a b = true) : hVal a b = a * 65536 + b := by simp [hVal, h]
theorem hval_no {a b : Int} (h : hOk a b = false) : hVal a b = 0 := by simp [hVal, h]
theorem hok_le {a b : Int} (h : hOk a b = true) : 1 ≤ a ∧ a ≤ 268435455 ∧ 1 ≤ b ∧ b ≤ 65535 := by simpa [hOk] using h
theorem hval_w64 (a b : Int) : W64 (hVal a b) := by
  cases h : hOk a b
  · rw [hval_no h]; unfold W64; omega
  · rw [hval_yes h]; have := hok_le h; unfold W64; omega
theorem right_hval {a b : Int} (h : hOk a b = true) : rightB (hVal a b) = true := by
  rw [hval_yes h]
  have hl := hok_le h
  have e1 : (a * 65536 + b) / 65536 = a := by omega
  have e2 : (a * 65536 + b) % 65536 = b := by omega
  unfold rightB; rw [e1, e2]; exact h

theorem birth_is (a b : Int) (w : World) (h : W64 a) (hb : a / 65536 = b) :
    Calls Try.prog 18 #[.int .u64 a] w fun e w' => e = .returned (.int .u64 b) ∧ w = w' := by
  subst hb; exact birth_any a w h
theorem block_is (a b : Int) (w : World) (h : W64 a) (hb : a % 65536 = b) :
    Calls Try.prog 17 #[.int .u64 a] w fun e w' => e = .returned (.int .u64 b) ∧ w = w' := by
  subst hb; exact block_any a w h

/-- H is the handle of a and b, if k; else there is none, and H is 0. -/
def HFact (a b H : Int) (k : Bool) : Prop := hVal a b = H ∧ hOk a b = k
/-- R is the root of h and t, if p; else there is none, and R is 0. -/
def RFact (h t R : Int) (p : Bool) : Prop := rVal h t = R ∧ rOk h t = p
/-- N is the note of a and b, if p; else there is none, and N is 0. -/
def NFact (a b N : Int) (p : Bool) : Prop := nVal a b = N ∧ nOk a b = p

theorem handle_fact (a b H : Int) (k : Bool) (w : World) (ha : W64 a) (hb : W64 b) (h : HFact a b H k) :
    Calls Try.prog 8 #[.int .u64 a, .int .u64 b] w fun e w' => e = .returned (.tuple #[.int .u64 H, .bool k]) ∧ w = w' := by
  obtain ⟨rfl, rfl⟩ := h; exact handle_any a b w ha hb
theorem root_fact (a b H : Int) (k : Bool) (w : World) (ha : W64 a) (hb : W64 b) (h : RFact a b H k) :
    Calls Try.prog 9 #[.int .u64 a, .int .u64 b] w fun e w' => e = .returned (.tuple #[.int .u64 H, .bool k]) ∧ w = w' := by
  obtain ⟨rfl, rfl⟩ := h; exact root_any a b w ha hb
theorem note_fact (a b H : Int) (k : Bool) (w : World) (ha : W64 a) (hb : W64 b) (h : NFact a b H k) :
    Calls Try.prog 10 #[.int .u64 a, .int .u64 b] w fun e w' => e = .returned (.tuple #[.int .u64 H, .bool k]) ∧ w = w' := by
  obtain ⟨rfl, rfl⟩ := h; exact note_any a b w ha hb
theorem HFact.w64 {a b H : Int} {k : Bool} (h : HFact a b H k) : W64 H := by
  obtain ⟨rfl, _⟩ := h; exact hval_w64 a b
theorem HFact.parts {a b H : Int} (h : HFact a b H true) : H / 65536 = a ∧ H % 65536 = b ∧ rightB H = true := by
  obtain ⟨rfl, hk⟩ := h
  have hl := hok_le hk
  refine ⟨?_, ?_, right_hval hk⟩ <;> rw [hval_yes hk] <;> omega
theorem HFact.sum {a b H : Int} (h : HFact a b H true) : H = a * 65536 + b ∧ 1 ≤ a ∧ a ≤ 268435455 ∧ 1 ≤ b ∧ b ≤ 65535 := by
  obtain ⟨rfl, hk⟩ := h; exact ⟨hval_yes hk, hok_le hk⟩

theorem RFact.w64 {h t R : Int} {p : Bool} (hh : W64 h) (ht : W64 t) (hr : RFact h t R p) : W64 R := by
  obtain ⟨rfl, hp⟩ := hr
  obtain ⟨t0, t1⟩ := ht
  cases p
  · have e : rVal h t = 0 := by simp [rVal, hp]
    rw [e]; unfold W64; omega
  · have e : rVal h t = h * 1048576 + t := by simp [rVal, hp]
    have hl := rok_le hh.1 hp
    have h0 := hh.1
    rw [e]; unfold W64; omega
theorem RFact.sum {h t R : Int} (hh : W64 h) (hr : RFact h t R true) : R = h * 1048576 + t ∧ 0 ≤ h ∧ t ≤ 1048575 := by
  obtain ⟨rfl, hp⟩ := hr
  exact ⟨by simp [rVal, hp], hh.1, (rok_le hh.1 hp).2⟩
theorem NFact.w64 {a b N : Int} {c : Bool} (ha : W64 a) (hb : W64 b) (h : NFact a b N c) : W64 N := by
  obtain ⟨rfl, hc⟩ := h
  obtain ⟨a0, a1⟩ := ha
  obtain ⟨b0, b1⟩ := hb
  cases c
  · have e : nVal a b = 0 := by simp [nVal, hc]
    rw [e]; unfold W64; omega
  · have e : nVal a b = a * 4294967296 + b := by simp [nVal, hc]
    simp [nOk] at hc
    rw [e]; unfold W64; omega
theorem NFact.parts {a b N : Int} (hb : W64 b) (h : NFact a b N true) : N / 4294967296 = a ∧ N % 4294967296 = b := by
  obtain ⟨rfl, hc⟩ := h
  have e : nVal a b = a * 4294967296 + b := by simp [nVal, hc]
  obtain ⟨b0, b1⟩ := hb
  simp [nOk] at hc
  rw [e]; omega
theorem seq_is (a b : Int) (w : World) (h : W64 a) (hb : a / 4294967296 = b) :
    Calls Try.prog 22 #[.int .u64 a] w fun e w' => e = .returned (.int .u64 b) ∧ w = w' := by
  subst hb; exact seq_any a w h
theorem body_is (a b : Int) (w : World) (h : W64 a) (hb : a % 4294967296 = b) :
    Calls Try.prog 21 #[.int .u64 a] w fun e w' => e = .returned (.int .u64 b) ∧ w = w' := by
  subst hb; exact body_any a w h

set_option maxRecDepth 100000 in
theorem back_core (a0 a1 b0 b1 H G R S N : Int) (k m p q c : Bool) (w : World) (ha0 : W64 a0) (ha1 : W64 a1) (hb0 : W64 b0) (hb1 : W64 b1)
    (hA : HFact a0 a1 H k) (hB : HFact b0 b1 G m) (hR : RFact H b0 R p) (hS : RFact G a0 S q) (hN : NFact a0 a1 N c) :
    Calls Try.prog 5 #[.agg #[.int .u64 a0, .int .u64 a1], .agg #[.int .u64 b0, .int .u64 b1]] w fun e w' => e = .returned (.bool true) ∧ Grown w w' := by
  have hH := hA.w64
  have hG := hB.w64
  go_enter Try.func5, Try.ntmps5
  go_upto_region 4 with (first
    | (go_at_call 7; (with_reducible refine (first_any _).mono ?_); rintro e w' ⟨rfl, rfl⟩)
    | (go_at_call 8; (with_reducible refine (handle_fact _ _ _ _ _ ha0 ha1 hA).mono ?_); rintro e w' ⟨rfl, rfl⟩))
  go_cut [44] (fun s44 wx => s44 = .bool false ∧ Lie w a0 a1 b0 b1 wx)
  case first =>
    cases k
    · go_quiet (fail)
      go_wp2
      go_meet
      exact ⟨rfl, by simp, by simp, by simp, by simp, by repeat (first | exact Grown.refl _ | apply Grown.drew | apply Grown.alloc)⟩
    · have hp := Lib.hid hA.parts
      go_quiet (first
        | (go_at_call 18; exact quiet_at (birth_is _ _ _ hH hp.out.1))
        | (go_at_call 17; exact quiet_at (block_is _ _ _ hH hp.out.2.1))
        | (go_at_call 14; exact quiet_at (right_is _ _ hH _ hp.out.2.2)))
      go_wp2
      go_meet
      exact ⟨rfl, by simp, by simp, by simp, by simp, by repeat (first | exact Grown.refl _ | apply Grown.drew | apply Grown.alloc)⟩
  case rest =>
    obtain ⟨rfl, hc0, hc1, hc2, hc3, hg⟩ := hcut
    go_upto_region 7 with (first
      | (go_at_call 8; (with_reducible refine (handle_fact _ _ _ _ _ hb0 hb1 hB).mono ?_); rintro e w' ⟨rfl, rfl⟩))
    go_cut [65] (fun s65 wx => s65 = .bool false ∧ Lie w a0 a1 b0 b1 wx)
    case first =>
      cases k
      · go_wp2
        go_meet
        exact ⟨rfl, hc0, hc1, hc2, hc3, hg⟩
      · cases m
        · go_wp2
          go_meet
          exact ⟨rfl, hc0, hc1, hc2, hc3, hg⟩
        · have sA := hA.sum
          have sB := hB.sum
          have l1 := load_arr wc w.heap.size _ _ hc0 hc1
          have l2 := load_arr wc (w.heap.size + 1) _ _ hc2 hc3
          by_cases hab : a0 = b0 ∧ a1 = b1
          · have e1 : (H == G) = true := by simp; omega
            have e2 := equal_arr wc a0 a1 b0 b1 true (by simp; exact hab)
            clear sA sB hab
            go_wp2
            go_meet
            exact ⟨rfl, hc0, hc1, hc2, hc3, hg⟩
          · have e1 : (H == G) = false := by simp; omega
            have e2 := equal_arr wc a0 a1 b0 b1 false (by simpa using hab)
            clear sA sB hab
            go_wp2
            go_meet
            exact ⟨rfl, hc0, hc1, hc2, hc3, hg⟩
    case rest =>
      clear hc0 hc1 hc2 hc3 hg
      obtain ⟨rfl, hc0, hc1, hc2, hc3, hg⟩ := hcut
      have hRw := hR.w64 hH hb0
      have hSw := hS.w64 hG ha0
      go_upto_region 11 with (first
        | (go_at_call 9; (with_reducible refine (root_fact _ _ _ _ _ hH hb0 hR).mono ?_); rintro e w' ⟨rfl, rfl⟩)
        | (go_at_call 9; (with_reducible refine (root_fact _ _ _ _ _ hG ha0 hS).mono ?_); rintro e w' ⟨rfl, rfl⟩))
      go_cut [115] (fun s115 wx => s115 = .bool false ∧ Lie w a0 a1 b0 b1 wx)
      case first =>
        cases p
        · go_quiet (fail)
          go_wp2
          go_meet
          exact ⟨rfl, by simpa using hc0, by simpa using hc1, by simpa using hc2, by simpa using hc3, by repeat (first | exact hg | apply Grown.drew | apply Grown.alloc)⟩
        · obtain ⟨r1, r2, r3⟩ := hR.sum hH
          have P1 : Hid (R / 1048576 = H) := Lib.hid (by have := hb0.1; omega)
          have P2 : Hid (R % 1048576 = b0) := Lib.hid (by have := hb0.1; omega)
          cases q
          · clear r1 r2 r3
            go_quiet (first
              | (go_at_call 20; exact quiet_at (top_is _ _ _ hRw P1.out))
              | (go_at_call 19; exact quiet_at (turn_is _ _ _ hRw P2.out)))
            go_wp2
            go_meet
            exact ⟨rfl, by simpa using hc0, by simpa using hc1, by simpa using hc2, by simpa using hc3, by repeat (first | exact hg | apply Grown.drew | apply Grown.alloc)⟩
          · obtain ⟨s1, s2, s3⟩ := hS.sum hG
            have gA := ha0.1
            have gB := hb0.1
            by_cases hHG : H = G
            · have e1 : (H == G) = true := by simpa using hHG
              by_cases hab : a0 = b0
              · have e2 : (a0 == b0) = true := by simpa using hab
                have e3 : (R == S) = true := by simp; omega
                clear r1 r2 r3 s1 s2 s3 hHG hab gA gB
                go_quiet (first
                  | (go_at_call 20; exact quiet_at (top_is _ _ _ hRw P1.out))
                  | (go_at_call 19; exact quiet_at (turn_is _ _ _ hRw P2.out)))
                go_wp2
                go_meet
                exact ⟨rfl, by simpa using hc0, by simpa using hc1, by simpa using hc2, by simpa using hc3, by repeat (first | exact hg | apply Grown.drew | apply Grown.alloc)⟩
              · have e2 : (a0 == b0) = false := by simpa using hab
                have e3 : (R == S) = false := by simp; omega
                clear r1 r2 r3 s1 s2 s3 hHG hab gA gB
                go_quiet (first
                  | (go_at_call 20; exact quiet_at (top_is _ _ _ hRw P1.out))
                  | (go_at_call 19; exact quiet_at (turn_is _ _ _ hRw P2.out)))
                go_wp2
                go_meet
                exact ⟨rfl, by simpa using hc0, by simpa using hc1, by simpa using hc2, by simpa using hc3, by repeat (first | exact hg | apply Grown.drew | apply Grown.alloc)⟩
            · have e1 : (H == G) = false := by simpa using hHG
              have e3 : (R == S) = false := by simp; omega
              clear r1 r2 r3 s1 s2 s3 hHG gA gB
              go_quiet (first
                | (go_at_call 20; exact quiet_at (top_is _ _ _ hRw P1.out))
                | (go_at_call 19; exact quiet_at (turn_is _ _ _ hRw P2.out)))
              go_wp2
              go_meet
              exact ⟨rfl, by simpa using hc0, by simpa using hc1, by simpa using hc2, by simpa using hc3, by repeat (first | exact hg | apply Grown.drew | apply Grown.alloc)⟩
      case rest =>
        clear hc0 hc1 hc2 hc3 hg
        obtain ⟨rfl, hc0, hc1, hc2, hc3, hg⟩ := hcut
        have hNw := hN.w64 ha0 ha1
        go_upto_region 14 with (go_at_call 10; (with_reducible refine (note_fact _ _ _ _ _ ha0 ha1 hN).mono ?_); rintro e w' ⟨rfl, rfl⟩)
        cases c
        · go_quiet (fail)
          go_wp2
          go_ret
          exact ⟨rfl, by repeat (first | exact hg | apply Grown.drew | apply Grown.alloc)⟩
        · have P1 := Lib.hid (hN.parts ha1)
          go_quiet (first
            | (go_at_call 22; exact quiet_at (seq_is _ _ _ hNw P1.out.1))
            | (go_at_call 21; exact quiet_at (body_is _ _ _ hNw P1.out.2)))
          go_wp2
          go_ret
          exact ⟨rfl, by repeat (first | exact hg | apply Grown.drew | apply Grown.alloc)⟩

theorem back_any (a0 a1 b0 b1 : Int) (w : World) (ha0 : W64 a0) (ha1 : W64 a1) (hb0 : W64 b0) (hb1 : W64 b1) :
    Calls Try.prog 5 #[.agg #[.int .u64 a0, .int .u64 a1], .agg #[.int .u64 b0, .int .u64 b1]] w fun e w' => e = .returned (.bool true) ∧ Grown w w' :=
  back_core a0 a1 b0 b1 _ _ _ _ _ _ _ _ _ _ w ha0 ha1 hb0 hb1 ⟨rfl, rfl⟩ ⟨rfl, rfl⟩ ⟨rfl, rfl⟩ ⟨rfl, rfl⟩ ⟨rfl, rfl⟩
end Fld
end Go.Proofs.Ythmcfkgeacjhlaa
