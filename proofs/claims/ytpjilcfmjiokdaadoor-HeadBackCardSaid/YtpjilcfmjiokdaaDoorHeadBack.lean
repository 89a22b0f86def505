/- HeadBack: what is put as words is read again. -/
import Derived.Test.YtpjilcfmjiokdaaDoorHeadFirst
set_option linter.unusedVariables false
set_option linter.unusedSimpArgs false
namespace Go.Proofs.YtpjilcfmjiokdaaDoor
namespace Hed
open Go.RowKit Go.Maps Arn

theorem wrap_small {a : Int} (h0 : 0 ≤ a) (h1 : a ≤ 100000) : IntKind.i64.wrap a = a := by
  rw [wrap_i64 h0 (by omega), if_pos (by omega)]
set_option maxRecDepth 100000 in
set_option maxHeartbeats 8000000 in
/-- The second part: the entry. -/
theorem back_any (c m ml q fr ql s sl es en ex : Int) (w : World) (hk : Ops.Kn w) (hc : W64 c) (hm : W64 m) (hq : W64 q) (hs : W64 s) (hn : W64 en) (hx : W64 ex) :
    Calls Tryd.prog 6 #[.int .u64 c, .agg #[.int .u64 m, .int .i64 ml, .int .u64 q, .int .i64 fr, .int .i64 ql, .int .u64 s, .int .i64 sl], .agg #[.int .i64 es, .int .u64 en, .int .u64 ex]] w fun e w' => e = .returned (.bool true) ∧ Frm.Turn [] w w' := by
  have T0 : Frm.Turn [] w ((w.alloc (.cells #[.int .u64 m, .int .i64 ml, .int .u64 q, .int .i64 fr, .int .i64 ql, .int .u64 s, .int .i64 sl] 24)).alloc (.cells #[.int .i64 es, .int .u64 en, .int .u64 ex] 26)) := ((Frm.Turn.refl [] w).alloc _).alloc _
  have B0 := Ops.heap_below w (.cells #[.int .u64 m, .int .i64 ml, .int .u64 q, .int .i64 fr, .int .i64 ql, .int .u64 s, .int .i64 sl] 24) (.cells #[.int .i64 es, .int .u64 en, .int .u64 ex] 26)
  have B1 := Ops.heap_last w (.cells #[.int .u64 m, .int .i64 ml, .int .u64 q, .int .i64 fr, .int .i64 ql, .int .u64 s, .int .i64 sl] 24) (.cells #[.int .i64 es, .int .u64 en, .int .u64 ex] 26)
  have HF := Lib.hid (fun W (hT : Frm.Turn [] w W) => first_any W (hk.turn hT))
  have HK := Lib.hid hk
  have HT0 := Lib.hid T0
  have HB0 := Lib.hid B0
  have HB1 := Lib.hid B1
  have eqv := fun W : World => eq_ver W m ml q fr ql s sl
  have eqe := fun W : World => eq_ent W es en ex
  clear T0 B0 B1 hk
  -- what each of the calls answers
  have HW0 : headB c m ml q fr ql s sl = false → Hid (∀ W : World, Calls Tryd.prog 9 #[.int .u64 c, .agg #[.int .u64 m, .int .i64 ml, .int .u64 q, .int .i64 fr, .int .i64 ql, .int .u64 s, .int .i64 sl]] W fun e w' => e = .returned (.tuple #[.slice none 0 0, .bool false]) ∧ Frm.Turn [] W w') := fun hb => Lib.hid fun W => Words_no c m ml q fr ql s sl W hc hm hq hs hb
  have HW1 : headB c m ml q fr ql s sl = true → Hid (∀ W : World, Calls Tryd.prog 9 #[.int .u64 c, .agg #[.int .u64 m, .int .i64 ml, .int .u64 q, .int .i64 fr, .int .i64 ql, .int .u64 s, .int .i64 sl]] W fun e w' => ∃ g, e = .returned (.tuple #[.slice (some ⟨g, 0, none⟩) 8 8, .bool true]) ∧ WordsAt w' (.slice (some ⟨g, 0, none⟩) 8 8) [c, m, ml, q, fr, ql, s, sl] ∧ W.heap.size ≤ g ∧ Frm.Turn [] W w') := fun hb => Lib.hid fun W => Words_yes c m ml q fr ql s sl W hc hm hq hs hb
  have HR1 : headB c m ml q fr ql s sl = true → Hid (∀ (W : World) (g : Nat), WordsAt W (.slice (some ⟨g, 0, none⟩) 8 8) [c, m, ml, q, fr, ql, s, sl] → Calls Tryd.prog 14 #[.slice (some ⟨g, 0, none⟩) 8 8] W fun e w' => e = .returned (.tuple #[.int .u64 c, .agg #[.int .u64 m, .int .i64 ml, .int .u64 q, .int .i64 fr, .int .i64 ql, .int .u64 s, .int .i64 sl], .bool true]) ∧ Frm.Turn [] W w') := fun hb => Lib.hid fun W g hw => by
    obtain ⟨⟨a1, a2⟩, ⟨a3, a4⟩, ⟨a5, a6⟩, ⟨a7, a8⟩, _⟩ := headB_parts hb
    exact Read_yes c m ml q fr ql s sl ml fr ql sl _ W hw hc hm hq hs (wrap_small a1 (by omega)) (wrap_small a3 (by omega)) (wrap_small a5 (by omega)) (wrap_small a7 (by omega)) hb
  have HE0 : entB es en ex = false → Hid (∀ W : World, Frm.Turn [] w W → Calls Tryd.prog 11 #[.agg #[.int .i64 es, .int .u64 en, .int .u64 ex]] W fun e w' => e = .returned (.tuple #[.slice none 0 0, .bool false]) ∧ Frm.Turn [] W w') := fun hb => Lib.hid fun W hT => EntryWords_no es en ex W (HK.out.turn hT) hn hx hb
  have HE1 : entB es en ex = true → Hid (∀ W : World, Frm.Turn [] w W → Calls Tryd.prog 11 #[.agg #[.int .i64 es, .int .u64 en, .int .u64 ex]] W fun e w' => ∃ g, e = .returned (.tuple #[.slice (some ⟨g, 0, none⟩) 3 3, .bool true]) ∧ WordsAt w' (.slice (some ⟨g, 0, none⟩) 3 3) [es, en, ex] ∧ W.heap.size ≤ g ∧ Frm.Turn [] W w') := fun hb => Lib.hid fun W hT => EntryWords_yes es en ex W (HK.out.turn hT) hn hx hb
  have HRE : entB es en ex = true → Hid (∀ (W : World) (g : Nat), Frm.Turn [] w W → WordsAt W (.slice (some ⟨g, 0, none⟩) 3 3) [es, en, ex] → Calls Tryd.prog 16 #[.slice (some ⟨g, 0, none⟩) 3 3] W fun e w' => e = .returned (.tuple #[.agg #[.int .i64 es, .int .u64 en, .int .u64 ex], .bool true]) ∧ Frm.Turn [] W w') := fun hb => Lib.hid fun W g hT hw => by
    obtain ⟨_, a0, a1, _⟩ := entB_parts hb
    have e := wrap_small a0 (by omega)
    have h := ReadEntry_three es en ex _ W hw (HK.out.turn hT) hn hx true (by rw [e]; exact hb)
    rw [e] at h
    exact h
  clear hc hm hq hs hn hx
  cases hb : headB c m ml q fr ql s sl with
  | false =>
    have HWx := HW0 hb
    cases eb : entB es en ex with
    | false =>
      have HEx := HE0 eb
      clear HW0 HW1 HR1 HE0 HE1 HRE hb eb
      go_enter Tryd.func6, Tryd.ntmps6
      go_wp2_with (first
        | (go_at_call 8; (with_reducible refine (HF.out _ HT0.out).mono ?_); rintro e w1 ⟨rfl, hT⟩; have T1 := Lib.hid hT; obtain ⟨⟨e0, e1, e2, e3, e4, e5, e6⟩, _⟩ := blk7 (T1.out.keep HB0.out (by simp)); obtain ⟨⟨d0, d1, d2⟩, _⟩ := blk3 (T1.out.keep HB1.out (by simp)); have W1 := Lib.hid (HT0.out.trans hT (by simp)); clear hT)
        | (go_at_call 9; (with_reducible refine (HWx.out _).mono ?_); rintro e w2 ⟨rfl, hT⟩; have T2 := Lib.hid (T1.out.trans hT (by simp)); obtain ⟨⟨e0, e1, e2, e3, e4, e5, e6⟩, _⟩ := blk7 (T2.out.keep HB0.out (by simp)); obtain ⟨⟨d0, d1, d2⟩, _⟩ := blk3 (T2.out.keep HB1.out (by simp)); have W2 := Lib.hid (W1.out.trans hT (by simp)); clear hT)
        | (go_at_call 11; (with_reducible refine (HEx.out _ W2.out).mono ?_); rintro e w4 ⟨rfl, hT⟩; have W4 := Lib.hid (W2.out.trans hT (by simp)); clear hT))
      go_ret
      exact ⟨rfl, W4.out⟩
    | true =>
      have HEx := HE1 eb
      have HREx := HRE eb
      clear HW0 HW1 HR1 HE0 HE1 HRE hb eb
      go_enter Tryd.func6, Tryd.ntmps6
      go_wp2_with (first
        | (go_at_call 8; (with_reducible refine (HF.out _ HT0.out).mono ?_); rintro e w1 ⟨rfl, hT⟩; have T1 := Lib.hid hT; obtain ⟨⟨e0, e1, e2, e3, e4, e5, e6⟩, _⟩ := blk7 (T1.out.keep HB0.out (by simp)); obtain ⟨⟨d0, d1, d2⟩, _⟩ := blk3 (T1.out.keep HB1.out (by simp)); have W1 := Lib.hid (HT0.out.trans hT (by simp)); clear hT)
        | (go_at_call 9; (with_reducible refine (HWx.out _).mono ?_); rintro e w2 ⟨rfl, hT⟩; have T2 := Lib.hid (T1.out.trans hT (by simp)); obtain ⟨⟨e0, e1, e2, e3, e4, e5, e6⟩, _⟩ := blk7 (T2.out.keep HB0.out (by simp)); obtain ⟨⟨d0, d1, d2⟩, _⟩ := blk3 (T2.out.keep HB1.out (by simp)); have W2 := Lib.hid (W1.out.trans hT (by simp)); clear hT)
        | (go_at_call 11; (with_reducible refine (HEx.out _ W2.out).mono ?_); rintro e w4 ⟨g4, rfl, hw, _, hT⟩; have T4 := Lib.hid (T2.out.trans hT (by simp)); obtain ⟨⟨e0, e1, e2, e3, e4, e5, e6⟩, _⟩ := blk7 (T4.out.keep HB0.out (by simp)); obtain ⟨⟨d0, d1, d2⟩, _⟩ := blk3 (T4.out.keep HB1.out (by simp)); have W4 := Lib.hid (W2.out.trans hT (by simp)); have HEO := Lib.hid hw; clear hT hw)
        | (go_at_call 16; (with_reducible refine (HREx.out _ _ W4.out HEO.out).mono ?_); rintro e w5 ⟨rfl, hT⟩; have T5 := Lib.hid ((T4.out.trans hT (by simp)).alloc (.cells #[.int .i64 es, .int .u64 en, .int .u64 ex] 26)); obtain ⟨⟨e0, e1, e2, e3, e4, e5, e6⟩, _⟩ := blk7 (T5.out.keep HB0.out (by simp)); obtain ⟨⟨d0, d1, d2⟩, _⟩ := blk3 (T5.out.keep HB1.out (by simp)); have W5 := Lib.hid ((W4.out.trans hT (by simp)).alloc (.cells #[.int .i64 es, .int .u64 en, .int .u64 ex] 26)); clear hT))
      go_ret
      exact ⟨rfl, W5.out⟩
  | true =>
    have HWx := HW1 hb
    have HRx := HR1 hb
    cases eb : entB es en ex with
    | false =>
      have HEx := HE0 eb
      clear HW0 HW1 HR1 HE0 HE1 HRE hb eb
      go_enter Tryd.func6, Tryd.ntmps6
      go_wp2_with (first
        | (go_at_call 8; (with_reducible refine (HF.out _ HT0.out).mono ?_); rintro e w1 ⟨rfl, hT⟩; have T1 := Lib.hid hT; obtain ⟨⟨e0, e1, e2, e3, e4, e5, e6⟩, _⟩ := blk7 (T1.out.keep HB0.out (by simp)); obtain ⟨⟨d0, d1, d2⟩, _⟩ := blk3 (T1.out.keep HB1.out (by simp)); have W1 := Lib.hid (HT0.out.trans hT (by simp)); clear hT)
        | (go_at_call 9; (with_reducible refine (HWx.out _).mono ?_); rintro e w2 ⟨g, rfl, hw, _, hT⟩; have T2 := Lib.hid (T1.out.trans hT (by simp)); obtain ⟨⟨e0, e1, e2, e3, e4, e5, e6⟩, _⟩ := blk7 (T2.out.keep HB0.out (by simp)); obtain ⟨⟨d0, d1, d2⟩, _⟩ := blk3 (T2.out.keep HB1.out (by simp)); have W2 := Lib.hid (W1.out.trans hT (by simp)); have HWO := Lib.hid hw; clear hT hw)
        | (go_at_call 14; (with_reducible refine (HRx.out _ _ HWO.out).mono ?_); rintro e w3 ⟨rfl, hT⟩; have T3 := Lib.hid ((T2.out.trans hT (by simp)).alloc (.cells #[.int .u64 m, .int .i64 ml, .int .u64 q, .int .i64 fr, .int .i64 ql, .int .u64 s, .int .i64 sl] 24)); obtain ⟨⟨e0, e1, e2, e3, e4, e5, e6⟩, _⟩ := blk7 (T3.out.keep HB0.out (by simp)); obtain ⟨⟨d0, d1, d2⟩, _⟩ := blk3 (T3.out.keep HB1.out (by simp)); have W3 := Lib.hid ((W2.out.trans hT (by simp)).alloc (.cells #[.int .u64 m, .int .i64 ml, .int .u64 q, .int .i64 fr, .int .i64 ql, .int .u64 s, .int .i64 sl] 24)); clear hT)
        | (go_at_call 11; (with_reducible refine (HEx.out _ W3.out).mono ?_); rintro e w4 ⟨rfl, hT⟩; have W4 := Lib.hid (W3.out.trans hT (by simp)); clear hT))
      go_ret
      exact ⟨rfl, W4.out⟩
    | true =>
      have HEx := HE1 eb
      have HREx := HRE eb
      clear HW0 HW1 HR1 HE0 HE1 HRE hb eb
      go_enter Tryd.func6, Tryd.ntmps6
      go_wp2_with (first
        | (go_at_call 8; (with_reducible refine (HF.out _ HT0.out).mono ?_); rintro e w1 ⟨rfl, hT⟩; have T1 := Lib.hid hT; obtain ⟨⟨e0, e1, e2, e3, e4, e5, e6⟩, _⟩ := blk7 (T1.out.keep HB0.out (by simp)); obtain ⟨⟨d0, d1, d2⟩, _⟩ := blk3 (T1.out.keep HB1.out (by simp)); have W1 := Lib.hid (HT0.out.trans hT (by simp)); clear hT)
        | (go_at_call 9; (with_reducible refine (HWx.out _).mono ?_); rintro e w2 ⟨g, rfl, hw, _, hT⟩; have T2 := Lib.hid (T1.out.trans hT (by simp)); obtain ⟨⟨e0, e1, e2, e3, e4, e5, e6⟩, _⟩ := blk7 (T2.out.keep HB0.out (by simp)); obtain ⟨⟨d0, d1, d2⟩, _⟩ := blk3 (T2.out.keep HB1.out (by simp)); have W2 := Lib.hid (W1.out.trans hT (by simp)); have HWO := Lib.hid hw; clear hT hw)
        | (go_at_call 14; (with_reducible refine (HRx.out _ _ HWO.out).mono ?_); rintro e w3 ⟨rfl, hT⟩; have T3 := Lib.hid ((T2.out.trans hT (by simp)).alloc (.cells #[.int .u64 m, .int .i64 ml, .int .u64 q, .int .i64 fr, .int .i64 ql, .int .u64 s, .int .i64 sl] 24)); obtain ⟨⟨e0, e1, e2, e3, e4, e5, e6⟩, _⟩ := blk7 (T3.out.keep HB0.out (by simp)); obtain ⟨⟨d0, d1, d2⟩, _⟩ := blk3 (T3.out.keep HB1.out (by simp)); have W3 := Lib.hid ((W2.out.trans hT (by simp)).alloc (.cells #[.int .u64 m, .int .i64 ml, .int .u64 q, .int .i64 fr, .int .i64 ql, .int .u64 s, .int .i64 sl] 24)); clear hT)
        | (go_at_call 11; (with_reducible refine (HEx.out _ W3.out).mono ?_); rintro e w4 ⟨g4, rfl, hw, _, hT⟩; have T4 := Lib.hid (T3.out.trans hT (by simp)); obtain ⟨⟨e0, e1, e2, e3, e4, e5, e6⟩, _⟩ := blk7 (T4.out.keep HB0.out (by simp)); obtain ⟨⟨d0, d1, d2⟩, _⟩ := blk3 (T4.out.keep HB1.out (by simp)); have W4 := Lib.hid (W3.out.trans hT (by simp)); have HEO := Lib.hid hw; clear hT hw)
        | (go_at_call 16; (with_reducible refine (HREx.out _ _ W4.out HEO.out).mono ?_); rintro e w5 ⟨rfl, hT⟩; have T5 := Lib.hid ((T4.out.trans hT (by simp)).alloc (.cells #[.int .i64 es, .int .u64 en, .int .u64 ex] 26)); obtain ⟨⟨e0, e1, e2, e3, e4, e5, e6⟩, _⟩ := blk7 (T5.out.keep HB0.out (by simp)); obtain ⟨⟨d0, d1, d2⟩, _⟩ := blk3 (T5.out.keep HB1.out (by simp)); have W5 := Lib.hid ((W4.out.trans hT (by simp)).alloc (.cells #[.int .i64 es, .int .u64 en, .int .u64 ex] 26)); clear hT))
      go_ret
      exact ⟨rfl, W5.out⟩
end Hed
end Go.Proofs.YtpjilcfmjiokdaaDoor
