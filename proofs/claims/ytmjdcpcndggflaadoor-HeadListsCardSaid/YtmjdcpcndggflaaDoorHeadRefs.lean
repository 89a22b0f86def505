/- The document's links, words of heads and of entries. -/
import Derived.Test.YtmjdcpcndggflaaDoorHeadWords
import Derived.Test.YtmjdcpcndggflaaDoorHeadEntry
import Derived.StillTailTactics
set_option linter.unusedVariables false
set_option linter.unusedSimpArgs false
namespace Go.Proofs.YtmjdcpcndggflaaDoor
namespace Hed
open Go.RowKit Go.Maps Arn

set_option maxRecDepth 100000 in
set_option maxHeartbeats 4000000 in
theorem RLink_any (x : Int) (w : World) (hx : W64 x) :
    Calls Tryd.prog 28 #[.int .u64 x] w fun e w' => e = .returned (.bool (linkB x)) ∧ w = w' := by
  have HR := Lib.hid (fun W => Fld.refright_any x W (w64f hx))
  clear hx
  by_cases hz : x = 0
  · subst hz
    go_enter Tryd.func28, Tryd.ntmps28
    go_wp2
    go_ret
    exact ⟨rfl, rfl⟩
  · have t1 : (x == 0) = false := by simpa using hz
    have HL : Hid (linkB x = Fld.rightB x) := Lib.hid (by unfold linkB; rw [t1]; rfl)
    rw [HL.out]
    clear HL hz
    generalize Fld.rightB x = b at HR ⊢
    go_enter Tryd.func28, Tryd.ntmps28
    go_wp2_with (go_at_call 41; (with_reducible refine (HR.out _).mono ?_); rintro e w1 ⟨rfl, rfl⟩)
    go_ret
    exact ⟨rfl, rfl⟩
set_option maxRecDepth 100000 in
set_option maxHeartbeats 8000000 in
theorem RWords_no (c m ml q fr ql s sl : Int) (w : World) (hc : W64 c) (hm : W64 m) (hq : W64 q) (hs : W64 s) (hb : headB c m ml q fr ql s sl = false) :
    Calls Tryd.prog 10 #[.int .u64 c, .agg #[.int .u64 m, .int .i64 ml, .int .u64 q, .int .i64 fr, .int .i64 ql, .int .u64 s, .int .i64 sl]] w fun e w' => e = .returned (.tuple #[.slice none 0 0, .bool false]) ∧ Frm.Turn [] w w' := by
  have HT := Lib.hid (fun o => (Frm.Turn.refl [] w).alloc o)
  have HB : Hid ((w.alloc (verO m ml q fr ql s sl)).heap[w.heap.size]? = some (verO m ml q fr ql s sl)) := Lib.hid (heap_new w _)
  unfold verO at HB
  have HR := Lib.hid (fun W => Drf.RRight_any m ml q fr ql s sl W)
  have H1 := Lib.hid (fun W => RLink_any c W hc)
  have H2 := Lib.hid (fun W => RLink_any m W hm)
  have H3 := Lib.hid (fun W => RLink_any q W hq)
  have H4 := Lib.hid (fun W => RLink_any s W hs)
  unfold headB at hb
  simp only [List.all_cons, List.all_nil, Bool.and_true] at hb
  generalize Drf.rightV ml fr ql sl = b0 at HR hb
  generalize linkB c = b1 at H1 hb
  generalize linkB m = b2 at H2 hb
  generalize linkB q = b3 at H3 hb
  generalize linkB s = b4 at H4 hb
  clear hc hm hq hs
  have hcase : b0 = false ∨ (b0 = true ∧ b1 = false) ∨ (b0 = true ∧ b1 = true ∧ b2 = false) ∨ (b0 = true ∧ b1 = true ∧ b2 = true ∧ b3 = false) ∨ (b0 = true ∧ b1 = true ∧ b2 = true ∧ b3 = true ∧ b4 = false) := by
    cases b0 <;> cases b1 <;> cases b2 <;> cases b3 <;> cases b4 <;> simp_all
  clear hb
  rcases hcase with rfl | ⟨rfl, rfl⟩ | ⟨rfl, rfl, rfl⟩ | ⟨rfl, rfl, rfl, rfl⟩ | ⟨rfl, rfl, rfl, rfl, rfl⟩
  all_goals
    go_enter Tryd.func10, Tryd.ntmps10
    go_wp2_with (first
      | (go_at_call 27; (with_reducible refine (HR.out _).mono ?_); rintro e w1 ⟨rfl, hT⟩; obtain ⟨⟨e0, e1, e2, e3, e4, e5, e6⟩, f0, f1, f2, f3, f4, f5, f6⟩ := blk7 (hT.keep HB.out (by simp)); have HT1 := Lib.hid ((HT.out _).trans hT (by simp)); clear hT)
      | (go_at_call 28; (with_reducible refine (H1.out _).mono ?_); rintro e w2 ⟨rfl, rfl⟩)
      | (go_at_call 28; (with_reducible refine (H2.out _).mono ?_); rintro e w2 ⟨rfl, rfl⟩)
      | (go_at_call 28; (with_reducible refine (H3.out _).mono ?_); rintro e w2 ⟨rfl, rfl⟩)
      | (go_at_call 28; (with_reducible refine (H4.out _).mono ?_); rintro e w2 ⟨rfl, rfl⟩))
    go_ret2
    exact ⟨rfl, HT1.out⟩
set_option maxRecDepth 100000 in
set_option maxHeartbeats 8000000 in
theorem RWords_yes (c m ml q fr ql s sl : Int) (w : World) (hc : W64 c) (hm : W64 m) (hq : W64 q) (hs : W64 s) (hb : headB c m ml q fr ql s sl = true) :
    Calls Tryd.prog 10 #[.int .u64 c, .agg #[.int .u64 m, .int .i64 ml, .int .u64 q, .int .i64 fr, .int .i64 ql, .int .u64 s, .int .i64 sl]] w fun e w' => ∃ g, e = .returned (.tuple #[.slice (some ⟨g, 0, none⟩) 8 8, .bool true]) ∧ WordsAt w' (.slice (some ⟨g, 0, none⟩) 8 8) [c, m, ml, q, fr, ql, s, sl] ∧ w.heap.size ≤ g ∧ Frm.Turn [] w w' := by
  have HT := Lib.hid (fun o => (Frm.Turn.refl [] w).alloc o)
  have HB : Hid ((w.alloc (verO m ml q fr ql s sl)).heap[w.heap.size]? = some (verO m ml q fr ql s sl)) := Lib.hid (heap_new w _)
  unfold verO at HB
  have HR := Lib.hid (fun W => Drf.RRight_any m ml q fr ql s sl W)
  have H1 := Lib.hid (fun W => RLink_any c W hc)
  have H2 := Lib.hid (fun W => RLink_any m W hm)
  have H3 := Lib.hid (fun W => RLink_any q W hq)
  have H4 := Lib.hid (fun W => RLink_any s W hs)
  obtain ⟨⟨a1, a2⟩, ⟨a3, a4⟩, ⟨a5, a6⟩, ⟨a7, a8⟩, _⟩ := headB_parts hb
  unfold headB at hb
  simp only [List.all_cons, List.all_nil, Bool.and_true] at hb
  generalize Drf.rightV ml fr ql sl = b0 at HR hb
  generalize linkB c = b1 at H1 hb
  generalize linkB m = b2 at H2 hb
  generalize linkB q = b3 at H3 hb
  generalize linkB s = b4 at H4 hb
  clear hc hm hq hs
  simp only [Bool.and_eq_true] at hb
  obtain ⟨rfl, rfl, rfl, rfl, rfl⟩ := hb
  go_enter Tryd.func10, Tryd.ntmps10
  go_wp2_with (first
    | (go_at_call 27; (with_reducible refine (HR.out _).mono ?_); rintro e w1 ⟨rfl, hT⟩; obtain ⟨⟨e0, e1, e2, e3, e4, e5, e6⟩, f0, f1, f2, f3, f4, f5, f6⟩ := blk7 (hT.keep HB.out (by simp)); have HT1 := Lib.hid ((HT.out _).trans hT (by simp)); clear hT)
    | (go_at_call 28; (with_reducible refine (H1.out _).mono ?_); rintro e w2 ⟨rfl, rfl⟩)
    | (go_at_call 28; (with_reducible refine (H2.out _).mono ?_); rintro e w2 ⟨rfl, rfl⟩)
    | (go_at_call 28; (with_reducible refine (H3.out _).mono ?_); rintro e w2 ⟨rfl, rfl⟩)
    | (go_at_call 28; (with_reducible refine (H4.out _).mono ?_); rintro e w2 ⟨rfl, rfl⟩))
  go_ret2
  exact ⟨_, rfl, words_made w1 [c, m, ml, q, fr, ql, s, sl], HT1.out.size, HT1.out.alloc _⟩
set_option maxRecDepth 100000 in
set_option maxHeartbeats 8000000 in
theorem REntry_any (s n x : Int) (w : World) (hn : W64 n) (hx : W64 x) :
    Calls Tryd.prog 12 #[.agg #[.int .i64 s, .int .u64 n, .int .u64 x]] w fun e w' => ∃ v, e = .returned (.tuple #[v, .bool (entB s n x)]) ∧ WordsAt w' v (if entB s n x then [s, n, x] else []) ∧ (∃ a l c, v = .slice a l c) ∧ Frm.Turn [] w w' := by
  have HT := Lib.hid (fun o => (Frm.Turn.refl [] w).alloc o)
  have HB : Hid ((w.alloc (entO s n x)).heap[w.heap.size]? = some (entO s n x)) := Lib.hid (heap_new w _)
  unfold entO at HB
  obtain ⟨p, HP⟩ : ∃ p, Hid (p = n % 4294967296) := ⟨_, Lib.hid rfl⟩
  have hp : Ops.W64 p := by rw [HP.out]; have := hn.1; have := hn.2; exact ⟨by omega, by omega⟩
  have HU : Hid (∀ W, Calls Tryd.prog 30 #[.int .u64 (n % 4294967296)] W fun e w' => e = .returned (.tuple #[Ops.vAns p, .bool (Ops.vOk p)]) ∧ Frm.Turn [] W w') := Lib.hid (fun W => by rw [← HP.out]; exact Ops.refUnpackResp_any p W hp)
  have HL := Lib.hid (fun W => RLink_any x W hx)
  obtain ⟨va, vb, hva⟩ := vAns_form p
  rw [hva] at HU
  unfold entB
  rw [noteB_is, ← HP.out]
  generalize Ops.vOk p = b1 at HU ⊢
  generalize linkB x = b4 at HL ⊢
  obtain ⟨n0, n1⟩ := hn
  clear hx hp hva HP
  by_cases h2 : 0 ≤ s
  · by_cases h3 : s < 255
    · have t3 : s ≤ 254 := by omega
      rw [decide_eq_true h2, decide_eq_true h3]
      cases b1 with
      | false =>
        go_enter Tryd.func12, Tryd.ntmps12
        go_wp2_with (first
          | (go_at_call 30; (with_reducible refine (HU.out _).mono ?_); rintro e w2 ⟨rfl, hT⟩; obtain ⟨⟨e0, e1, e2⟩, f0, f1, f2⟩ := blk3 (((hT.alloc (.cells #[.int .i64 va, .int .i64 vb] 69))).keep HB.out (by simp)); have HT2 := Lib.hid ((HT.out _).trans hT (by simp)); clear hT))
        go_ret2
        exact ⟨_, rfl, .inl ⟨rfl, rfl⟩, ⟨_, _, _, rfl⟩, HT2.out.alloc _⟩
      | true =>
        cases b4 with
        | false =>
          go_enter Tryd.func12, Tryd.ntmps12
          go_wp2_with (first
            | (go_at_call 30; (with_reducible refine (HU.out _).mono ?_); rintro e w2 ⟨rfl, hT⟩; obtain ⟨⟨e0, e1, e2⟩, f0, f1, f2⟩ := blk3 (((hT.alloc (.cells #[.int .i64 va, .int .i64 vb] 69))).keep HB.out (by simp)); have HT2 := Lib.hid ((HT.out _).trans hT (by simp)); clear hT)
            | (go_at_call 28; (with_reducible refine (HL.out _).mono ?_); rintro e w3 ⟨rfl, rfl⟩))
          go_ret2
          exact ⟨_, rfl, .inl ⟨rfl, rfl⟩, ⟨_, _, _, rfl⟩, HT2.out.alloc _⟩
        | true =>
          go_enter Tryd.func12, Tryd.ntmps12
          go_wp2_with (first
            | (go_at_call 30; (with_reducible refine (HU.out _).mono ?_); rintro e w2 ⟨rfl, hT⟩; obtain ⟨⟨e0, e1, e2⟩, f0, f1, f2⟩ := blk3 (((hT.alloc (.cells #[.int .i64 va, .int .i64 vb] 69))).keep HB.out (by simp)); have HT2 := Lib.hid ((HT.out _).trans hT (by simp)); clear hT)
            | (go_at_call 28; (with_reducible refine (HL.out _).mono ?_); rintro e w3 ⟨rfl, rfl⟩))
          go_ret2
          exact ⟨_, rfl, (by have h := words_made (w2.alloc (.cells #[.int .i64 va, .int .i64 vb] 69)) [s, n, x]; rw [World.size_alloc] at h; exact h), ⟨_, _, _, rfl⟩, (HT2.out.alloc _).alloc _⟩
    · have h3' : 254 < s := by omega
      rw [decide_eq_true h2, decide_eq_false h3]
      cases b1 with
      | false =>
        go_enter Tryd.func12, Tryd.ntmps12
        go_wp2_with (first
          | (go_at_call 30; (with_reducible refine (HU.out _).mono ?_); rintro e w2 ⟨rfl, hT⟩; obtain ⟨⟨e0, e1, e2⟩, f0, f1, f2⟩ := blk3 (((hT.alloc (.cells #[.int .i64 va, .int .i64 vb] 69))).keep HB.out (by simp)); have HT2 := Lib.hid ((HT.out _).trans hT (by simp)); clear hT))
        go_ret2
        exact ⟨_, rfl, .inl ⟨rfl, rfl⟩, ⟨_, _, _, rfl⟩, HT2.out.alloc _⟩
      | true =>
        go_enter Tryd.func12, Tryd.ntmps12
        go_wp2_with (first
          | (go_at_call 30; (with_reducible refine (HU.out _).mono ?_); rintro e w2 ⟨rfl, hT⟩; obtain ⟨⟨e0, e1, e2⟩, f0, f1, f2⟩ := blk3 (((hT.alloc (.cells #[.int .i64 va, .int .i64 vb] 69))).keep HB.out (by simp)); have HT2 := Lib.hid ((HT.out _).trans hT (by simp)); clear hT))
        go_ret2
        exact ⟨_, rfl, .inl ⟨rfl, rfl⟩, ⟨_, _, _, rfl⟩, HT2.out.alloc _⟩
  · have h2' : s < 0 := by omega
    rw [decide_eq_false h2]
    cases b1 with
    | false =>
      go_enter Tryd.func12, Tryd.ntmps12
      go_wp2_with (first
        | (go_at_call 30; (with_reducible refine (HU.out _).mono ?_); rintro e w2 ⟨rfl, hT⟩; obtain ⟨⟨e0, e1, e2⟩, f0, f1, f2⟩ := blk3 (((hT.alloc (.cells #[.int .i64 va, .int .i64 vb] 69))).keep HB.out (by simp)); have HT2 := Lib.hid ((HT.out _).trans hT (by simp)); clear hT))
      go_ret2
      exact ⟨_, rfl, .inl ⟨rfl, rfl⟩, ⟨_, _, _, rfl⟩, HT2.out.alloc _⟩
    | true =>
      go_enter Tryd.func12, Tryd.ntmps12
      go_wp2_with (first
        | (go_at_call 30; (with_reducible refine (HU.out _).mono ?_); rintro e w2 ⟨rfl, hT⟩; obtain ⟨⟨e0, e1, e2⟩, f0, f1, f2⟩ := blk3 (((hT.alloc (.cells #[.int .i64 va, .int .i64 vb] 69))).keep HB.out (by simp)); have HT2 := Lib.hid ((HT.out _).trans hT (by simp)); clear hT))
      go_ret2
      exact ⟨_, rfl, .inl ⟨rfl, rfl⟩, ⟨_, _, _, rfl⟩, HT2.out.alloc _⟩
/-! ### the four calls in one form -/
def WEnd (b : Bool) (l : List Int) (w : World) (e : Ending) (w' : World) : Prop := ∃ v, e = .returned (.tuple #[v, .bool b]) ∧ WordsAt w' v l ∧ (∃ a n c, v = .slice a n c) ∧ Frm.Turn [] w w'
theorem Words_any (c m ml q fr ql s sl : Int) (w : World) (hc : W64 c) (hm : W64 m) (hq : W64 q) (hs : W64 s) :
    Calls Tryd.prog 9 #[.int .u64 c, .agg #[.int .u64 m, .int .i64 ml, .int .u64 q, .int .i64 fr, .int .i64 ql, .int .u64 s, .int .i64 sl]] w fun e w' => WEnd (headB c m ml q fr ql s sl) (if headB c m ml q fr ql s sl then [c, m, ml, q, fr, ql, s, sl] else []) w e w' := by
  cases hb : headB c m ml q fr ql s sl with
  | false =>
    refine (Words_no c m ml q fr ql s sl w hc hm hq hs hb).mono ?_
    rintro e w' ⟨rfl, hT⟩
    exact ⟨_, rfl, .inl ⟨rfl, rfl⟩, ⟨_, _, _, rfl⟩, hT⟩
  | true =>
    refine (Words_yes c m ml q fr ql s sl w hc hm hq hs hb).mono ?_
    rintro e w' ⟨g, rfl, hw, _, hT⟩
    exact ⟨_, rfl, hw, ⟨_, _, _, rfl⟩, hT⟩
theorem RWords_any (c m ml q fr ql s sl : Int) (w : World) (hc : W64 c) (hm : W64 m) (hq : W64 q) (hs : W64 s) :
    Calls Tryd.prog 10 #[.int .u64 c, .agg #[.int .u64 m, .int .i64 ml, .int .u64 q, .int .i64 fr, .int .i64 ql, .int .u64 s, .int .i64 sl]] w fun e w' => WEnd (headB c m ml q fr ql s sl) (if headB c m ml q fr ql s sl then [c, m, ml, q, fr, ql, s, sl] else []) w e w' := by
  cases hb : headB c m ml q fr ql s sl with
  | false =>
    refine (RWords_no c m ml q fr ql s sl w hc hm hq hs hb).mono ?_
    rintro e w' ⟨rfl, hT⟩
    exact ⟨_, rfl, .inl ⟨rfl, rfl⟩, ⟨_, _, _, rfl⟩, hT⟩
  | true =>
    refine (RWords_yes c m ml q fr ql s sl w hc hm hq hs hb).mono ?_
    rintro e w' ⟨g, rfl, hw, _, hT⟩
    exact ⟨_, rfl, hw, ⟨_, _, _, rfl⟩, hT⟩
theorem EntryWords_any (s n x : Int) (w : World) (hk : Ops.Kn w) (hn : W64 n) (hx : W64 x) :
    Calls Tryd.prog 11 #[.agg #[.int .i64 s, .int .u64 n, .int .u64 x]] w fun e w' => WEnd (entB s n x) (if entB s n x then [s, n, x] else []) w e w' := by
  cases hb : entB s n x with
  | false =>
    refine (EntryWords_no s n x w hk hn hx hb).mono ?_
    rintro e w' ⟨rfl, hT⟩
    exact ⟨_, rfl, .inl ⟨rfl, rfl⟩, ⟨_, _, _, rfl⟩, hT⟩
  | true =>
    refine (EntryWords_yes s n x w hk hn hx hb).mono ?_
    rintro e w' ⟨g, rfl, hw, _, hT⟩
    exact ⟨_, rfl, hw, ⟨_, _, _, rfl⟩, hT⟩
end Hed
end Go.Proofs.YtmjdcpcndggflaaDoor
