/- The words of a head, a head read. -/
import Derived.Test.YtmjdcpcndggflaaDoorHeadLinks
import Derived.StillTailTactics
import Derived.BigRegion
import Derived.Laws.Tables
import Derived.Test.YtmjdcpcndggflaaDoorHeadOps
set_option linter.unusedVariables false
set_option linter.unusedSimpArgs false
namespace Go.Proofs.YtmjdcpcndggflaaDoor
namespace Hed
open Go.RowKit Go.Maps Arn

set_option maxRecDepth 100000 in
set_option maxHeartbeats 4000000 in
theorem Words_no (c m ml q fr ql s sl : Int) (w : World) (hc : W64 c) (hm : W64 m) (hq : W64 q) (hs : W64 s) (hb : headB c m ml q fr ql s sl = false) :
    Calls Tryd.prog 9 #[.int .u64 c, .agg #[.int .u64 m, .int .i64 ml, .int .u64 q, .int .i64 fr, .int .i64 ql, .int .u64 s, .int .i64 sl]] w fun e w' => e = .returned (.tuple #[.slice none 0 0, .bool false]) ∧ Frm.Turn [] w w' := by
  have HT := Lib.hid (fun o => (Frm.Turn.refl [] w).alloc o)
  have HH := Lib.hid (fun W => isHead_any c m ml q fr ql s sl W hc hm hq hs)
  rw [hb] at HH
  clear hb hc hm hq hs
  go_enter Tryd.func9, Tryd.ntmps9
  go_wp2_with (go_at_call 26; (with_reducible refine (HH.out _).mono ?_); rintro e w1 ⟨rfl, hT⟩; have HT1 := Lib.hid ((HT.out _).trans hT (by simp)); clear hT)
  go_ret2
  exact ⟨rfl, HT1.out⟩
set_option maxRecDepth 100000 in
set_option maxHeartbeats 4000000 in
theorem Words_yes (c m ml q fr ql s sl : Int) (w : World) (hc : W64 c) (hm : W64 m) (hq : W64 q) (hs : W64 s) (hb : headB c m ml q fr ql s sl = true) :
    Calls Tryd.prog 9 #[.int .u64 c, .agg #[.int .u64 m, .int .i64 ml, .int .u64 q, .int .i64 fr, .int .i64 ql, .int .u64 s, .int .i64 sl]] w fun e w' => ∃ g, e = .returned (.tuple #[.slice (some ⟨g, 0, none⟩) 8 8, .bool true]) ∧ WordsAt w' (.slice (some ⟨g, 0, none⟩) 8 8) [c, m, ml, q, fr, ql, s, sl] ∧ w.heap.size ≤ g ∧ Frm.Turn [] w w' := by
  have HT := Lib.hid (fun o => (Frm.Turn.refl [] w).alloc o)
  have HB : Hid ((w.alloc (verO m ml q fr ql s sl)).heap[w.heap.size]? = some (verO m ml q fr ql s sl)) := Lib.hid (heap_new w _)
  unfold verO at HB
  have HH := Lib.hid (fun W => isHead_any c m ml q fr ql s sl W hc hm hq hs)
  rw [hb] at HH
  obtain ⟨⟨a1, a2⟩, ⟨a3, a4⟩, ⟨a5, a6⟩, ⟨a7, a8⟩, _⟩ := headB_parts hb
  clear hb hc hm hq hs
  go_enter Tryd.func9, Tryd.ntmps9
  go_wp2_with (go_at_call 26; (with_reducible refine (HH.out _).mono ?_); rintro e w1 ⟨rfl, hT⟩; obtain ⟨⟨e0, e1, e2, e3, e4, e5, e6⟩, f0, f1, f2, f3, f4, f5, f6⟩ := blk7 (hT.keep HB.out (by simp)); have HT1 := Lib.hid ((HT.out _).trans hT (by simp)); clear hT)
  go_ret2
  exact ⟨_, rfl, words_made w1 [c, m, ml, q, fr, ql, s, sl], HT1.out.size, HT1.out.alloc _⟩
set_option maxRecDepth 100000 in
set_option maxHeartbeats 4000000 in
theorem Read_len (l : List Int) (v : Value) (w : World) (h : WordsAt w v l) (hl : l.length ≠ 8) :
    Calls Tryd.prog 14 #[v] w fun e w' => e = .returned (.tuple #[.int .u64 0, .agg #[.int .u64 0, .int .i64 0, .int .u64 0, .int .i64 0, .int .i64 0, .int .u64 0, .int .i64 0], .bool false]) ∧ Frm.Turn [] w w' := by
  obtain ⟨a, c, rfl⟩ := WordsAt.form' h
  have t0 : ((l.length : Int) != 8) = true := by simp; omega
  generalize l.length = n at hl t0 ⊢
  have HT : Hid (Frm.Turn [] w (w.alloc (verO 0 0 0 0 0 0 0))) := Lib.hid ((Frm.Turn.refl [] w).alloc _)
  clear h hl
  go_enter Tryd.func14, Tryd.ntmps14
  go_wp2
  refine bodyPost_ret (v := .tuple #[.int .u64 0, .agg #[.int .u64 0, .int .i64 0, .int .u64 0, .int .i64 0, .int .i64 0, .int .u64 0, .int .i64 0], .bool false]) (by simp [results, Tryd.results14, go_sem]) rfl ⟨rfl, ?_⟩
  exact HT.out
theorem info_ver : (Tryd.prog.info? 24).map (·.size) = some 7 := by kernel_rfl
theorem setRow_turn {F : List Nat} {w0 w : World} (h : Frm.Turn F w0 w) {g : Nat} (hg : g ∈ F ∨ w0.heap.size ≤ g) (cs : Array Value) : Frm.Turn F w0 (w.setRow g cs) :=
  ⟨h.os, h.tape, h.output, by have := h.size; simp; omega, fun k hk hn => by
    have hne : g ≠ k := fun e => by subst e; rcases hg with h1 | h1; exact hn h1; omega
    rw [← h.block k hk hn]
    simp [World.setRow, Array.getElem?_modify, hne]⟩
/-- Eight words in a slice. -/
theorem eight_cells {w : World} {v : Value} {x0 x1 x2 x3 x4 x5 x6 x7 : Int} (h : WordsAt w v [x0, x1, x2, x3, x4, x5, x6, x7]) : ∃ a c, v = .slice (some a) 8 c ∧ ∀ w', Frm.Turn [] w w' → w'.cell? a = some (.int .u64 x0) ∧ w'.cell? { a with off := a.off + 1, spot := none } = some (.int .u64 x1) ∧ w'.cell? { a with off := a.off + 2, spot := none } = some (.int .u64 x2) ∧
    w'.cell? { a with off := a.off + 3, spot := none } = some (.int .u64 x3) ∧ w'.cell? { a with off := a.off + 4, spot := none } = some (.int .u64 x4) ∧ w'.cell? { a with off := a.off + 5, spot := none } = some (.int .u64 x5) ∧ w'.cell? { a with off := a.off + 6, spot := none } = some (.int .u64 x6) ∧ w'.cell? { a with off := a.off + 7, spot := none } = some (.int .u64 x7) := by
  obtain ⟨a, c, e, q⟩ := WordsAt.cellAt h (by simp)
  refine ⟨a, c, e, fun w' hT => ?_⟩
  have q' := fun j u hu => hT.cell (q j u hu) (by simp)
  have q0 := q' 0 _ rfl
  have q1 := q' 1 _ rfl
  have q2 := q' 2 _ rfl
  have q3 := q' 3 _ rfl
  have q4 := q' 4 _ rfl
  have q5 := q' 5 _ rfl
  have q6 := q' 6 _ rfl
  have q7 := q' 7 _ rfl
  simp only [Addr.add, if_true, if_neg (show ¬ (1 : Nat) = 0 by decide), if_neg (show ¬ (2 : Nat) = 0 by decide), if_neg (show ¬ (3 : Nat) = 0 by decide), if_neg (show ¬ (4 : Nat) = 0 by decide), if_neg (show ¬ (5 : Nat) = 0 by decide), if_neg (show ¬ (6 : Nat) = 0 by decide), if_neg (show ¬ (7 : Nat) = 0 by decide)] at q0 q1 q2 q3 q4 q5 q6 q7
  exact ⟨q0, q1, q2, q3, q4, q5, q6, q7⟩
end Hed
end Go.Proofs.YtmjdcpcndggflaaDoor
