/- What the laws of layer 5 ask ahead of everything else: contracts of the call. -/
import Derived.Test.YtlfejjegegdbnaaDoorOpsParse
set_option linter.unusedVariables false
set_option linter.unusedSimpArgs false
namespace Go.Proofs.YtlfejjegegdbnaaDoor
namespace Ops
open Go.RowKit Go.Lib

theorem itoa_one (n : Nat) (h : n < 10) : itoa (n : Int) = [UInt8.ofNat (48 + n)] := by rw [itoa_nonneg, decDigits_one h]
theorem swap_text : opT.text 7 3 4 5 = [115, 119, 97, 112, 32, 51, 32, 52, 32, 53] := by
  unfold Tab.text
  rw [if_pos (by decide)]
  unfold txt seg
  have h3 := itoa_one 3 (by decide)
  have h4 := itoa_one 4 (by decide)
  have h5 := itoa_one 5 (by decide)
  rw [show (3 : Int) = ((3 : Nat) : Int) from rfl, show (4 : Int) = ((4 : Nat) : Int) from rfl, show (5 : Int) = ((5 : Nat) : Int) from rfl, h3, h4, h5]
  decide
theorem unlike_text : respT.text 4 7 0 0 = [117, 110, 108, 105, 107, 101, 32, 55] := by
  unfold Tab.text
  rw [if_pos (by decide)]
  unfold txt seg
  have h7 := itoa_one 7 (by decide)
  rw [show (7 : Int) = ((7 : Nat) : Int) from rfl, h7]
  decide
theorem full_text : respT.text 2 0 0 0 = [102, 117, 108, 108] := by
  unfold Tab.text
  rw [if_pos (by decide)]
  unfold txt seg
  decide
theorem swap_parse : opT.parse [115, 119, 97, 112, 32, 51, 32, 52, 32, 53] = some (7, 3, 4, 5) := by rw [← swap_text]; exact parse_text (c := 7) opT_good (by decide)
theorem unlike_parse : respT.parse [117, 110, 108, 105, 107, 101, 32, 55] = some (4, 7, 0, 0) := by rw [← unlike_text]; exact parse_text (c := 4) respT_good (by decide)

set_option maxRecDepth 100000 in
set_option maxHeartbeats 4000000 in
theorem first_any (w : World) (hk : Kn w) :
    Calls Tryd.prog 7 #[] w fun e w' => e = .returned (.bool true) ∧ Frm.Turn [] w w' := by
  have K := Lib.hid hk
  have hT0 : Frm.Turn [] w (w.alloc (.cells #[.int .i64 7, .int .i64 3, .int .i64 4, .int .i64 5] 23)) := (Frm.Turn.refl [] w).alloc _
  have T0 := Lib.hid hT0
  have Ha_0 := Lib.hid (World.alloc_heap_new w (.cells #[.int .i64 7, .int .i64 3, .int .i64 4, .int .i64 5] 23))
  have P1 : Hid (Calls Tryd.prog 8 #[.agg #[.int .i64 7, .int .i64 3, .int .i64 4, .int .i64 5]] (w.alloc (.cells #[.int .i64 7, .int .i64 3, .int .i64 4, .int .i64 5] 23)) fun e w' => e = .returned (.tuple #[.int .u64 1882198021, .bool true]) ∧ Frm.Turn [] (w.alloc (.cells #[.int .i64 7, .int .i64 3, .int .i64 4, .int .i64 5] 23)) w') := Lib.hid (pack_any 7 3 4 5 _ (hk.turn hT0))
  have Q2 : Hid (∀ W, Kn W → Calls Tryd.prog 16 #[.int .u64 1882198021] W fun e w' => e = .returned (.tuple #[.agg #[.int .i64 7, .int .i64 3, .int .i64 4, .int .i64 5], .bool true]) ∧ Frm.Turn [] W w') := Lib.hid (fun W h => unpack_any 1882198021 W h (by unfold W64; omega))
  have Q3 : Hid (∀ W, Kn W → Calls Tryd.prog 20 #[.string ⟨#[115, 119, 97, 112, 32, 51, 32, 52, 32, 53]⟩] W fun e w' => e = .returned (.tuple #[.agg #[.int .i64 7, .int .i64 3, .int .i64 4, .int .i64 5], .bool true]) ∧ Frm.Turn [] W w') := Lib.hid (fun W h => by have := parse_any [115, 119, 97, 112, 32, 51, 32, 52, 32, 53] W h (by decide); rw [swap_parse] at this; exact this)
  have Q4 : Hid (∀ W, Kn W → Calls Tryd.prog 22 #[.string ⟨#[117, 110, 108, 105, 107, 101, 32, 55]⟩] W fun e w' => e = .returned (.tuple #[.agg #[.int .i64 4, .int .i64 7], .bool true]) ∧ Frm.Turn [] W w') := Lib.hid (fun W h => by have := parseResp_any [117, 110, 108, 105, 107, 101, 32, 55] W h (by decide); rw [unlike_parse] at this; exact this)
  have Q5 : Hid (∀ W, Kn W → Calls Tryd.prog 9 #[.agg #[.int .i64 4, .int .i64 7]] W fun e w' => e = .returned (.tuple #[.int .u64 1073741831, .bool true]) ∧ Frm.Turn [] W w') := Lib.hid (fun W h => packResp_any 4 7 W h)
  have Q6 : Hid (∀ W, Kn W → Calls Tryd.prog 18 #[.int .u64 1073741831] W fun e w' => e = .returned (.tuple #[.agg #[.int .i64 4, .int .i64 7], .bool true]) ∧ Frm.Turn [] W w') := Lib.hid (fun W h => unpackResp_any 1073741831 W h (by unfold W64; omega))
  have Q7 : Hid (∀ W, Kn W → Calls Tryd.prog 24 #[.agg #[.int .i64 7, .int .i64 3, .int .i64 4, .int .i64 5]] W fun e w' => e = .returned (.string ⟨#[115, 119, 97, 112, 32, 51, 32, 52, 32, 53]⟩) ∧ Frm.Turn [] W w') := Lib.hid (fun W h => by have := otext_any 7 3 4 5 W h; rw [swap_text] at this; exact this)
  have Q8 : Hid (∀ W, Kn W → Calls Tryd.prog 26 #[.agg #[.int .i64 2, .int .i64 0]] W fun e w' => e = .returned (.string ⟨#[102, 117, 108, 108]⟩) ∧ Frm.Turn [] W w') := Lib.hid (fun W h => by have := rtext_any 2 0 W h; rw [full_text] at this; exact this)
  have Q9 : Hid (∀ W, Kn W → Calls Tryd.prog 10 #[.agg #[.int .i64 7, .int .i64 3, .int .i64 4, .int .i64 5]] W fun e w' => e = .returned (.bool true) ∧ Frm.Turn [] W w') := Lib.hid (fun W h => right_any 7 3 4 5 W h)
  have QA : Hid (∀ W, Kn W → Calls Tryd.prog 10 #[.agg #[.int .i64 2, .int .i64 0, .int .i64 1, .int .i64 0]] W fun e w' => e = .returned (.bool false) ∧ Frm.Turn [] W w') := Lib.hid (fun W h => right_any 2 0 1 0 W h)
  have QB : Hid (∀ W, Kn W → Calls Tryd.prog 12 #[.agg #[.int .i64 4, .int .i64 7]] W fun e w' => e = .returned (.bool true) ∧ Frm.Turn [] W w') := Lib.hid (fun W h => rightResp_any 4 7 W h)
  have QC : Hid (∀ W, Kn W → Calls Tryd.prog 12 #[.agg #[.int .i64 1, .int .i64 1]] W fun e w' => e = .returned (.bool false) ∧ Frm.Turn [] W w') := Lib.hid (fun W h => rightResp_any 1 1 W h)
  clear hk hT0
  go_enter Tryd.func7, Tryd.ntmps7
  go_wp2_with (first
    | (go_at_call 8; (with_reducible refine (P1.out).mono ?_); rintro e w1 ⟨rfl, hT⟩; have Ha_1 := Lib.hid (hT.keep Ha_0.out (by simp)); have T1 := Lib.hid (T0.out.trans hT (by simp)); have P2 := Lib.hid (Q2.out _ (K.out.turn T1.out)); clear hT)
    | (go_at_call 16; (with_reducible refine (P2.out).mono ?_); rintro e w2 ⟨rfl, hT⟩; have Ha_2 := Lib.hid (hT.keep Ha_1.out (by simp)); have T2 := Lib.hid ((T1.out.trans hT (by simp)).alloc (.cells #[.int .i64 7, .int .i64 3, .int .i64 4, .int .i64 5] 23)); have Ha_3 := Lib.hid (((Frm.Turn.refl [] w2).alloc (.cells #[.int .i64 7, .int .i64 3, .int .i64 4, .int .i64 5] 23)).keep Ha_2.out (by simp)); have Hb_3 := Lib.hid (World.alloc_heap_new w2 (.cells #[.int .i64 7, .int .i64 3, .int .i64 4, .int .i64 5] 23)); have P3 := Lib.hid (Q3.out _ (K.out.turn T2.out)); clear hT)
    | (go_at_call 20; (with_reducible refine (P3.out).mono ?_); rintro e w3 ⟨rfl, hT⟩; have Ha_4 := Lib.hid (hT.keep Ha_3.out (by simp)); have Hb_4 := Lib.hid (hT.keep Hb_3.out (by simp)); have T3 := Lib.hid ((T2.out.trans hT (by simp)).alloc (.cells #[.int .i64 7, .int .i64 3, .int .i64 4, .int .i64 5] 23)); have Ha_5 := Lib.hid (((Frm.Turn.refl [] w3).alloc (.cells #[.int .i64 7, .int .i64 3, .int .i64 4, .int .i64 5] 23)).keep Ha_4.out (by simp)); have Hb_5 := Lib.hid (((Frm.Turn.refl [] w3).alloc (.cells #[.int .i64 7, .int .i64 3, .int .i64 4, .int .i64 5] 23)).keep Hb_4.out (by simp)); have Hc_5 := Lib.hid (World.alloc_heap_new w3 (.cells #[.int .i64 7, .int .i64 3, .int .i64 4, .int .i64 5] 23)); have P4 := Lib.hid (Q4.out _ (K.out.turn T3.out)); clear hT)
    | (go_at_call 22; (with_reducible refine (P4.out).mono ?_); rintro e w4 ⟨rfl, hT⟩; have Ha_6 := Lib.hid (hT.keep Ha_5.out (by simp)); have Hb_6 := Lib.hid (hT.keep Hb_5.out (by simp)); have Hc_6 := Lib.hid (hT.keep Hc_5.out (by simp)); have T4 := Lib.hid ((T3.out.trans hT (by simp)).alloc (.cells #[.int .i64 4, .int .i64 7] 25)); have Ha_7 := Lib.hid (((Frm.Turn.refl [] w4).alloc (.cells #[.int .i64 4, .int .i64 7] 25)).keep Ha_6.out (by simp)); have Hb_7 := Lib.hid (((Frm.Turn.refl [] w4).alloc (.cells #[.int .i64 4, .int .i64 7] 25)).keep Hb_6.out (by simp)); have Hc_7 := Lib.hid (((Frm.Turn.refl [] w4).alloc (.cells #[.int .i64 4, .int .i64 7] 25)).keep Hc_6.out (by simp)); have Hd_7 := Lib.hid (World.alloc_heap_new w4 (.cells #[.int .i64 4, .int .i64 7] 25)); have P5 := Lib.hid (Q5.out _ (K.out.turn T4.out)); clear hT)
    | (go_at_call 9; (with_reducible refine (P5.out).mono ?_); rintro e w5 ⟨rfl, hT⟩; have Ha_8 := Lib.hid (hT.keep Ha_7.out (by simp)); have Hb_8 := Lib.hid (hT.keep Hb_7.out (by simp)); have Hc_8 := Lib.hid (hT.keep Hc_7.out (by simp)); have Hd_8 := Lib.hid (hT.keep Hd_7.out (by simp)); have T5 := Lib.hid (T4.out.trans hT (by simp)); have P6 := Lib.hid (Q6.out _ (K.out.turn T5.out)); clear hT)
    | (go_at_call 18; (with_reducible refine (P6.out).mono ?_); rintro e w6 ⟨rfl, hT⟩; have Ha_9 := Lib.hid (hT.keep Ha_8.out (by simp)); have Hb_9 := Lib.hid (hT.keep Hb_8.out (by simp)); have Hc_9 := Lib.hid (hT.keep Hc_8.out (by simp)); have Hd_9 := Lib.hid (hT.keep Hd_8.out (by simp)); have T6 := Lib.hid ((T5.out.trans hT (by simp)).alloc (.cells #[.int .i64 4, .int .i64 7] 25)); have Ha_10 := Lib.hid (((Frm.Turn.refl [] w6).alloc (.cells #[.int .i64 4, .int .i64 7] 25)).keep Ha_9.out (by simp)); have Hb_10 := Lib.hid (((Frm.Turn.refl [] w6).alloc (.cells #[.int .i64 4, .int .i64 7] 25)).keep Hb_9.out (by simp)); have Hc_10 := Lib.hid (((Frm.Turn.refl [] w6).alloc (.cells #[.int .i64 4, .int .i64 7] 25)).keep Hc_9.out (by simp)); have Hd_10 := Lib.hid (((Frm.Turn.refl [] w6).alloc (.cells #[.int .i64 4, .int .i64 7] 25)).keep Hd_9.out (by simp)); have He_10 := Lib.hid (World.alloc_heap_new w6 (.cells #[.int .i64 4, .int .i64 7] 25)); obtain ⟨⟨ka0, ka1, ka2, ka3⟩, _⟩ := blk4 Ha_10.out; obtain ⟨⟨kb0, kb1, kb2, kb3⟩, _⟩ := blk4 Hb_10.out; obtain ⟨⟨kc0, kc1, kc2, kc3⟩, _⟩ := blk4 Hc_10.out; obtain ⟨⟨kd0, kd1⟩, _⟩ := blk2 Hd_10.out; obtain ⟨⟨ke0, ke1⟩, _⟩ := blk2 He_10.out; have P7 := Lib.hid (Q7.out _ (K.out.turn T6.out)); clear hT)
    | (go_at_call 24; (with_reducible refine (P7.out).mono ?_); rintro e w7 ⟨rfl, hT⟩; have Ha_11 := Lib.hid (hT.keep Ha_10.out (by simp)); have Hd_11 := Lib.hid (hT.keep Hd_10.out (by simp)); have T7 := Lib.hid (T6.out.trans hT (by simp)); obtain ⟨⟨m0, m1, m2, m3⟩, _⟩ := blk4 Ha_11.out; obtain ⟨⟨n0, n1⟩, _⟩ := blk2 Hd_11.out; have P8 := Lib.hid (Q8.out _ (K.out.turn T7.out)); clear hT)
    | (go_at_call 26; (with_reducible refine (P8.out).mono ?_); rintro e w8 ⟨rfl, hT⟩; have Ha_12 := Lib.hid (hT.keep Ha_11.out (by simp)); have Hd_12 := Lib.hid (hT.keep Hd_11.out (by simp)); have T8 := Lib.hid (T7.out.trans hT (by simp)); obtain ⟨⟨p0, p1, p2, p3⟩, _⟩ := blk4 Ha_12.out; have P9 := Lib.hid (Q9.out _ (K.out.turn T8.out)); clear hT)
    | (go_at_call 10; (with_reducible refine (P9.out).mono ?_); rintro e w9 ⟨rfl, hT⟩; have Hd_13 := Lib.hid (hT.keep Hd_12.out (by simp)); have T9 := Lib.hid (T8.out.trans hT (by simp)); have PA := Lib.hid (QA.out _ (K.out.turn T9.out)); clear hT)
    | (go_at_call 10; (with_reducible refine (PA.out).mono ?_); rintro e wa ⟨rfl, hT⟩; have Hd_14 := Lib.hid (hT.keep Hd_13.out (by simp)); have TA := Lib.hid (T9.out.trans hT (by simp)); obtain ⟨⟨q0, q1⟩, _⟩ := blk2 Hd_14.out; have PB := Lib.hid (QB.out _ (K.out.turn TA.out)); clear hT)
    | (go_at_call 12; (with_reducible refine (PB.out).mono ?_); rintro e wb ⟨rfl, hT⟩; have TB := Lib.hid (TA.out.trans hT (by simp)); have PC := Lib.hid (QC.out _ (K.out.turn TB.out)); clear hT)
    | (go_at_call 12; (with_reducible refine (PC.out).mono ?_); rintro e wc ⟨rfl, hT⟩; have TC := Lib.hid (TB.out.trans hT (by simp)); clear hT))
  go_ret
  exact ⟨rfl, TC.out⟩
end Ops
end Go.Proofs.YtlfejjegegdbnaaDoor
