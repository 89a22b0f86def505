/- What 'text' of a form answers, and Text, TextResp: contracts of the calls. -/
import Derived.Test.YtlfejjegegdbnaaDoorOpsKnown
import Derived.LoopTactic
import Derived.Laws.Concat
set_option linter.unusedVariables false
set_option linter.unusedSimpArgs false
namespace Go.Proofs.YtlfejjegegdbnaaDoor
namespace Ops
open Go.RowKit Go.Lib

theorem nDigits_le (u : Nat) : ∀ k, u < 10 ^ (k + 1) → nDigits u ≤ k + 1 := by
  intro k
  induction k generalizing u with
  | zero => intro h; rw [nDigits_small (by simpa using h)]; exact Nat.le_refl _
  | succ k ih =>
    intro h
    by_cases h10 : u < 10
    · rw [nDigits_small h10]; omega
    · rw [nDigits_big h10]
      have := ih (u / 10) (by rw [Nat.pow_succ] at h; omega)
      omega
theorem itoa_len (n : Int) (h0 : 0 ≤ n) (h1 : n ≤ 999999999) : (itoa n).length ≤ 9 := by
  rw [(itoa_val n h0 h1).2.2, decDigits_length]
  exact nDigits_le _ 8 (by omega)
theorem seg_len (m x : Int) (h0 : 0 ≤ x) (h1 : x ≤ 999999999) : (seg m x).length ≤ 10 := by
  unfold seg
  split
  · have := itoa_len x h0 h1
    simp; omega
  · simp

/-- What has been put together so far. -/
def acc (n : List UInt8) (x0 x1 x2 y0 y1 y2 : Int) : Nat → List UInt8
  | 0 => n
  | 1 => n ++ seg x0 y0
  | 2 => n ++ seg x0 y0 ++ seg x1 y1
  | _ => txt n x0 x1 x2 y0 y1 y2
def TextAt (n : List UInt8) (x0 x1 x2 y0 y1 y2 : Int) (w : World) (s i : Value) (wr : World) : Prop := ∃ k : Nat, k ≤ 3 ∧ i = .int .i64 k ∧ s = .string ⟨(acc n x0 x1 x2 y0 y1 y2 k).toArray⟩ ∧ Frm.Turn [] w wr

/-- One part put behind. -/
theorem add_seg (a : List UInt8) (m x : Int) (hm : 0 < m) (h0 : 0 ≤ x) (h1 : x ≤ 999999999) (ha : a.length ≤ 1000000) (w : World) :
    (Op.stringOp .add ⟨#[32]⟩ ⟨(itoa x).toArray⟩).run Tryd.prog w = .ok (.string ⟨(32 :: itoa x).toArray⟩) w ∧ (Op.stringOp .add ⟨a.toArray⟩ ⟨(32 :: itoa x).toArray⟩).run Tryd.prog w = .ok (.string ⟨(a ++ seg m x).toArray⟩) w := by
  have hl := itoa_len x h0 h1
  constructor
  · exact run_string_add_lists w [32] (itoa x) (by simp) (by omega)
  · rw [run_string_add_lists w a (32 :: itoa x) (by omega) (by simp; omega)]
    unfold seg
    rw [if_pos hm]
theorem seg_none (m x : Int) (hm : ¬ 0 < m) (a : List UInt8) : a ++ seg m x = a := by unfold seg; rw [if_neg hm, List.append_nil]

set_option maxHeartbeats 2000000 in
theorem ftext_any (n : List UInt8) (x0 x1 x2 y0 y1 y2 : Int) (w : World) (hk : Kn w) (hn : n.length ≤ 1000) (hx : x0 ≤ 999999999 ∧ x1 ≤ 999999999 ∧ x2 ≤ 999999999) (hy : allowB x0 x1 x2 y0 y1 y2 = true) :
    Calls Tryd.prog 39 #[.agg #[.string ⟨n.toArray⟩, .int .i64 x0, .int .i64 x1, .int .i64 x2], .agg #[.int .i64 y0, .int .i64 y1, .int .i64 y2]] w fun e w' => e = .returned (.string ⟨(txt n x0 x1 x2 y0 y1 y2).toArray⟩) ∧ Frm.Turn [] w w' := by
  obtain ⟨⟨a0, b0⟩, ⟨a1, b1⟩, a2, b2⟩ := allow_parts hy
  obtain ⟨c0, c1, c2⟩ := hx
  have i0 : ∀ w, (Instr.index 49 (.agg #[.int .i64 x0, .int .i64 x1, .int .i64 x2]) (.int .i64 0)).run Tryd.prog w = .ok (.int .i64 x0) w := fun _ => by kernel_rfl
  have i1 : ∀ w, (Instr.index 49 (.agg #[.int .i64 x0, .int .i64 x1, .int .i64 x2]) (.int .i64 1)).run Tryd.prog w = .ok (.int .i64 x1) w := fun _ => by kernel_rfl
  have i2 : ∀ w, (Instr.index 49 (.agg #[.int .i64 x0, .int .i64 x1, .int .i64 x2]) (.int .i64 2)).run Tryd.prog w = .ok (.int .i64 x2) w := fun _ => by kernel_rfl
  have HT := Lib.hid (fun o o' => ((Frm.Turn.refl [] w).alloc o).alloc o')
  have HK := Lib.hid hk
  have l0 := seg_len x0 y0 a0 (by omega)
  have l1 := seg_len x1 y1 a1 (by omega)
  have S0 : Hid (0 < x0 → ∀ w : World, (Op.stringOp .add ⟨#[32]⟩ ⟨(itoa y0).toArray⟩).run Tryd.prog w = .ok (.string ⟨(32 :: itoa y0).toArray⟩) w ∧ (Op.stringOp .add ⟨(acc n x0 x1 x2 y0 y1 y2 0).toArray⟩ ⟨(32 :: itoa y0).toArray⟩).run Tryd.prog w = .ok (.string ⟨(acc n x0 x1 x2 y0 y1 y2 1).toArray⟩) w) := Lib.hid (fun h w => add_seg (acc n x0 x1 x2 y0 y1 y2 0) x0 y0 h a0 (by omega) (by simp [acc]; omega) w)
  have S1 : Hid (0 < x1 → ∀ w : World, (Op.stringOp .add ⟨#[32]⟩ ⟨(itoa y1).toArray⟩).run Tryd.prog w = .ok (.string ⟨(32 :: itoa y1).toArray⟩) w ∧ (Op.stringOp .add ⟨(acc n x0 x1 x2 y0 y1 y2 1).toArray⟩ ⟨(32 :: itoa y1).toArray⟩).run Tryd.prog w = .ok (.string ⟨(acc n x0 x1 x2 y0 y1 y2 2).toArray⟩) w) := Lib.hid (fun h w => add_seg (acc n x0 x1 x2 y0 y1 y2 1) x1 y1 h a1 (by omega) (by simp [acc]; omega) w)
  have S2 : Hid (0 < x2 → ∀ w : World, (Op.stringOp .add ⟨#[32]⟩ ⟨(itoa y2).toArray⟩).run Tryd.prog w = .ok (.string ⟨(32 :: itoa y2).toArray⟩) w ∧ (Op.stringOp .add ⟨(acc n x0 x1 x2 y0 y1 y2 2).toArray⟩ ⟨(32 :: itoa y2).toArray⟩).run Tryd.prog w = .ok (.string ⟨(acc n x0 x1 x2 y0 y1 y2 3).toArray⟩) w) := Lib.hid (fun h w => add_seg (acc n x0 x1 x2 y0 y1 y2 2) x2 y2 h a2 (by omega) (by simp [acc]; omega) w)
  clear hk hy l0 l1
  go_enter Tryd.func39, Tryd.ntmps39
  go_wp2
  have c0y : ∀ wr, Frm.Turn [] ((w.alloc (.cells #[.string ⟨n.toArray⟩, .int .i64 x0, .int .i64 x1, .int .i64 x2] 51)).alloc (.cells #[.int .i64 y0, .int .i64 y1, .int .i64 y2] 49)) wr → wr.cell? ⟨w.heap.size + 1, 0, none⟩ = some (.int .i64 y0) ∧ wr.cell? ⟨w.heap.size + 1, 1, none⟩ = some (.int .i64 y1) ∧ wr.cell? ⟨w.heap.size + 1, 2, none⟩ = some (.int .i64 y2) := by
    intro wr hT
    refine ⟨hT.cell ?_ (by simp), hT.cell ?_ (by simp), hT.cell ?_ (by simp)⟩ <;> go_simp
  have HC := Lib.hid c0y
  clear c0y
  have HT0 := Lib.hid (HT.out (.cells #[.string ⟨n.toArray⟩, .int .i64 x0, .int .i64 x1, .int .i64 x2] 51) (.cells #[.int .i64 y0, .int .i64 y1, .int .i64 y2] 49))
  clear HT
  generalize (w.alloc (.cells #[.string ⟨n.toArray⟩, .int .i64 x0, .int .i64 x1, .int .i64 x2] 51)).alloc (.cells #[.int .i64 y0, .int .i64 y1, .int .i64 y2] 49) = W at HC HT0 ⊢
  go_loopw [5, 12] (fun s i wr => TextAt n x0 x1 x2 y0 y1 y2 W s i wr) (fun _ i _ => (4 - RowKit.intOf i).toNat)
  case atStart => exact ⟨0, by omega, rfl, rfl, Frm.Turn.refl _ _⟩
  case round =>
    obtain ⟨k, hk3, rfl, rfl, hT⟩ := hrel
    obtain ⟨e0, e1, e2⟩ := HC.out _ hT
    have HTr := Lib.hid hT
    have HKr := Lib.hid ((HK.out.turn HT0.out).turn hT)
    clear hT
    obtain rfl | rfl | rfl | rfl : k = 0 ∨ k = 1 ∨ k = 2 ∨ k = 3 := by omega
    · by_cases h : 0 < x0
      · obtain ⟨s1, s2⟩ := S0.out h wr
        have HI := Lib.hid (itoa_any y0 wr HKr.out a0 (by omega))
        have S3 := Lib.hid (fun w => S0.out h w)
        go_wp2_with (go_at_call 43; (with_reducible refine HI.out.mono ?_); rintro e w1 ⟨rfl, hT1⟩; obtain ⟨s1, s2⟩ := S3.out w1; have HT1 := Lib.hid (HTr.out.trans hT1 (by simp)); clear hT1)
        go_roundw
        case rel => exact ⟨1, by omega, rfl, rfl, HT1.out⟩
        case measure => simp [RowKit.intOf]
      · go_wp2
        go_roundw
        case rel => exact ⟨1, by omega, rfl, by simp only [acc, txt]; rw [seg_none _ _ h], HTr.out⟩
        case measure => simp [RowKit.intOf]
    · by_cases h : 0 < x1
      · have HI := Lib.hid (itoa_any y1 wr HKr.out a1 (by omega))
        have S3 := Lib.hid (fun w => S1.out h w)
        go_wp2_with (go_at_call 43; (with_reducible refine HI.out.mono ?_); rintro e w1 ⟨rfl, hT1⟩; obtain ⟨s1, s2⟩ := S3.out w1; have HT1 := Lib.hid (HTr.out.trans hT1 (by simp)); clear hT1)
        go_roundw
        case rel => exact ⟨2, by omega, rfl, rfl, HT1.out⟩
        case measure => simp [RowKit.intOf]
      · go_wp2
        go_roundw
        case rel => exact ⟨2, by omega, rfl, by simp only [acc, txt]; rw [seg_none _ _ h], HTr.out⟩
        case measure => simp [RowKit.intOf]
    · by_cases h : 0 < x2
      · have HI := Lib.hid (itoa_any y2 wr HKr.out a2 (by omega))
        have S3 := Lib.hid (fun w => S2.out h w)
        go_wp2_with (go_at_call 43; (with_reducible refine HI.out.mono ?_); rintro e w1 ⟨rfl, hT1⟩; obtain ⟨s1, s2⟩ := S3.out w1; have HT1 := Lib.hid (HTr.out.trans hT1 (by simp)); clear hT1)
        go_roundw
        case rel => exact ⟨3, by omega, rfl, rfl, HT1.out⟩
        case measure => simp [RowKit.intOf]
      · go_wp2
        go_roundw
        case rel => exact ⟨3, by omega, rfl, by simp only [acc, txt]; rw [seg_none _ _ h], HTr.out⟩
        case measure => simp [RowKit.intOf]
    · go_wp2
      go_ret
      exact ⟨rfl, HT0.out.trans HTr.out (by simp)⟩
end Ops
end Go.Proofs.YtlfejjegegdbnaaDoor
