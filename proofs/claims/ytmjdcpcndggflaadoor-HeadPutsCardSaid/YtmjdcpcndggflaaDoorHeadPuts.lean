/- HeadPuts: the words of any version, and of any entry, are the document's. -/
import Derived.Test.YtmjdcpcndggflaaDoorHeadRefs
import Derived.Test.YtmjdcpcndggflaaDoorHeadSame
import Derived.Test.YtmjdcpcndggflaaDoorHeadFirst
set_option linter.unusedVariables false
set_option linter.unusedSimpArgs false
namespace Go.Proofs.YtmjdcpcndggflaaDoor
namespace Hed
open Go.RowKit Go.Maps Arn

set_option maxRecDepth 100000 in
set_option maxHeartbeats 8000000 in
theorem puts_any (c m ml q fr ql s sl es en ex : Int) (w : World) (hk : Ops.Kn w) (hc : W64 c) (hm : W64 m) (hq : W64 q) (hs : W64 s) (hn : W64 en) (hx : W64 ex) :
    Calls Tryd.prog 3 #[.int .u64 c, .agg #[.int .u64 m, .int .i64 ml, .int .u64 q, .int .i64 fr, .int .i64 ql, .int .u64 s, .int .i64 sl], .agg #[.int .i64 es, .int .u64 en, .int .u64 ex]] w fun e w' => e = .returned (.bool true) ∧ Frm.Turn [] w w' := by
  have T0 : Frm.Turn [] w ((w.alloc (.cells #[.int .u64 m, .int .i64 ml, .int .u64 q, .int .i64 fr, .int .i64 ql, .int .u64 s, .int .i64 sl] 24)).alloc (.cells #[.int .i64 es, .int .u64 en, .int .u64 ex] 26)) := ((Frm.Turn.refl [] w).alloc _).alloc _
  have B0 := Ops.heap_below w (.cells #[.int .u64 m, .int .i64 ml, .int .u64 q, .int .i64 fr, .int .i64 ql, .int .u64 s, .int .i64 sl] 24) (.cells #[.int .i64 es, .int .u64 en, .int .u64 ex] 26)
  have B1 := Ops.heap_last w (.cells #[.int .u64 m, .int .i64 ml, .int .u64 q, .int .i64 fr, .int .i64 ql, .int .u64 s, .int .i64 sl] 24) (.cells #[.int .i64 es, .int .u64 en, .int .u64 ex] 26)
  have HF := Lib.hid (fun W (hT : Frm.Turn [] w W) => first_any W (hk.turn hT))
  have HK := Lib.hid hk
  have HT0 := Lib.hid T0
  have HB0 := Lib.hid B0
  have HB1 := Lib.hid B1
  have HW := Lib.hid (fun W => Words_any c m ml q fr ql s sl W hc hm hq hs)
  have HX := Lib.hid (fun W => RWords_any c m ml q fr ql s sl W hc hm hq hs)
  have HY := Lib.hid (fun W (hT : Frm.Turn [] w W) => EntryWords_any es en ex W (HK.out.turn hT) hn hx)
  have HZ : Hid (∀ W, Calls Tryd.prog 12 #[.agg #[.int .i64 es, .int .u64 en, .int .u64 ex]] W fun e w' => WEnd (entB es en ex) (if entB es en ex then [es, en, ex] else []) W e w') := Lib.hid (fun W => REntry_any es en ex W hn hx)
  obtain ⟨l1, h1⟩ : ∃ l, l = if headB c m ml q fr ql s sl then [c, m, ml, q, fr, ql, s, sl] else [] := ⟨_, rfl⟩
  obtain ⟨l2, h2⟩ : ∃ l, l = if entB es en ex then [es, en, ex] else [] := ⟨_, rfl⟩
  have hl1 : l1.length ≤ 60000 := by rw [h1]; split <;> simp
  have hl2 : l2.length ≤ 60000 := by rw [h2]; split <;> simp
  rw [← h1] at HW HX
  rw [← h2] at HY HZ
  clear h1 h2
  generalize headB c m ml q fr ql s sl = b1 at HW HX
  generalize entB es en ex = b2 at HY HZ
  have HL1 := Lib.hid hl1
  have HL2 := Lib.hid hl2
  clear T0 B0 B1 hk hc hm hq hs hn hx hl1 hl2
  go_enter Tryd.func3, Tryd.ntmps3
  go_wp2_with (first
    | (go_at_call 8; (with_reducible refine (HF.out _ HT0.out).mono ?_); rintro e w1 ⟨rfl, hT⟩; have T := Lib.hid hT; obtain ⟨⟨e0, e1, e2, e3, e4, e5, e6⟩, _⟩ := blk7 (T.out.keep HB0.out (by simp)); obtain ⟨⟨d0, d1, d2⟩, _⟩ := blk3 (T.out.keep HB1.out (by simp)); have WT := Lib.hid (HT0.out.trans hT (by simp)); clear hT)
    | (go_at_call 9; (with_reducible refine (HW.out _).mono ?_); rintro e w2 ⟨v1, rfl, hw, ⟨a1, n1, c1, rfl⟩, hT⟩; have T := Lib.hid (T.out.trans hT (by simp)); obtain ⟨⟨e0, e1, e2, e3, e4, e5, e6⟩, _⟩ := blk7 (T.out.keep HB0.out (by simp)); obtain ⟨⟨d0, d1, d2⟩, _⟩ := blk3 (T.out.keep HB1.out (by simp)); have WT := Lib.hid (WT.out.trans hT (by simp)); have HV1 := Lib.hid hw; clear hT hw)
    | (go_at_call 10; (with_reducible refine (HX.out _).mono ?_); rintro e w3 ⟨v2, rfl, hw, ⟨a2, n2, c2, rfl⟩, hT⟩; have T := Lib.hid (T.out.trans hT (by simp)); obtain ⟨⟨e0, e1, e2, e3, e4, e5, e6⟩, _⟩ := blk7 (T.out.keep HB0.out (by simp)); obtain ⟨⟨d0, d1, d2⟩, _⟩ := blk3 (T.out.keep HB1.out (by simp)); have WT := Lib.hid (WT.out.trans hT (by simp)); have HV1 := Lib.hid (WordsAt.turn' HV1.out hT); have HV2 := Lib.hid hw; clear hT hw)
    | (go_at_call 11; (with_reducible refine (HY.out _ WT.out).mono ?_); rintro e w4 ⟨v3, rfl, hw, ⟨a3, n3, c3, rfl⟩, hT⟩; have T := Lib.hid (T.out.trans hT (by simp)); obtain ⟨⟨d0, d1, d2⟩, _⟩ := blk3 (T.out.keep HB1.out (by simp)); have WT := Lib.hid (WT.out.trans hT (by simp)); have HV1 := Lib.hid (WordsAt.turn' HV1.out hT); have HV2 := Lib.hid (WordsAt.turn' HV2.out hT); have HV3 := Lib.hid hw; clear hT hw)
    | (go_at_call 12; (with_reducible refine (HZ.out _).mono ?_); rintro e w5 ⟨v4, rfl, hw, ⟨a4, n4, c4, rfl⟩, hT⟩; have WT := Lib.hid (WT.out.trans hT (by simp)); have HV1 := Lib.hid (WordsAt.turn' HV1.out hT); have HV2 := Lib.hid (WordsAt.turn' HV2.out hT); have HV3 := Lib.hid (WordsAt.turn' HV3.out hT); have HV4 := Lib.hid hw; clear hT hw)
    | (go_at_call 13; (with_reducible refine (Words_same HV1.out HV2.out HL1.out).mono ?_); rintro e w6 ⟨rfl, hT⟩; have WT := Lib.hid (WT.out.trans hT (by simp)); have HV3 := Lib.hid (WordsAt.turn' HV3.out hT); have HV4 := Lib.hid (WordsAt.turn' HV4.out hT); clear hT)
    | (go_at_call 13; (with_reducible refine (Words_same HV3.out HV4.out HL2.out).mono ?_); rintro e w7 ⟨rfl, hT⟩; have WT := Lib.hid (WT.out.trans hT (by simp)); clear hT))
  go_ret
  exact ⟨rfl, WT.out⟩
end Hed
end Go.Proofs.YtmjdcpcndggflaaDoor
