/- HeadReads: which version, which entry any words are, is as the document says. -/
import Derived.Test.YtmjdcpcndggflaaDoorHeadRReadEntry
import Derived.Test.YtmjdcpcndggflaaDoorHeadSame
import Derived.Test.YtmjdcpcndggflaaDoorHeadFirst
set_option linter.unusedVariables false
set_option linter.unusedSimpArgs false
namespace Go.Proofs.YtmjdcpcndggflaaDoor
namespace Hed
open Go.RowKit Go.Maps Arn

set_option maxRecDepth 100000 in
set_option maxHeartbeats 8000000 in
theorem reads_any (l : List Int) (v : Value) (w : World) (hk : Ops.Kn w) (h : WordsAt w v l) (h64 : ∀ u, u ∈ l → W64 u) :
    Calls Tryd.prog 4 #[v] w fun e w' => e = .returned (.bool true) ∧ Frm.Turn [] w w' := by
  obtain ⟨c, m, ml, q, fr, ql, s, sl, b, hR1, hR2⟩ := read_two l v h64
  obtain ⟨es, en, ex, he⟩ : ∃ a b c : Int, entV ((readE l).getD zeroE) = .agg #[.int .i64 a, .int .u64 b, .int .u64 c] := ⟨_, _, _, rfl⟩
  have hE1 : ∀ W, WordsAt W v l → Frm.Turn [] w W → Calls Tryd.prog 16 #[v] W fun e w' => e = .returned (.tuple #[.agg #[.int .i64 es, .int .u64 en, .int .u64 ex], .bool (readE l).isSome]) ∧ Frm.Turn [] W w' := fun W hW hT => by rw [← he]; exact ReadEntry_any l v W hW h64 (hk.turn hT)
  have hE2 : ∀ W, WordsAt W v l → Calls Tryd.prog 17 #[v] W fun e w' => e = .returned (.tuple #[.agg #[.int .i64 es, .int .u64 en, .int .u64 ex], .bool (readE l).isSome]) ∧ Frm.Turn [] W w' := fun W hW => by rw [← he]; exact RReadEntry_any l v W hW h64
  generalize (readE l).isSome = b2 at hE1 hE2
  have HF := Lib.hid (fun W (hT : Frm.Turn [] w W) => first_any W (hk.turn hT))
  have HR1 := Lib.hid hR1
  have HR2 := Lib.hid hR2
  have HE1 := Lib.hid hE1
  have HE2 := Lib.hid hE2
  have H := Lib.hid h
  have WT := Lib.hid (Frm.Turn.refl [] w)
  have eqv := fun W : World => eq_ver W m ml q fr ql s sl
  have eqe := fun W : World => eq_ent W es en ex
  obtain ⟨a0, c0, hv⟩ := WordsAt.form' h
  clear hR1 hR2 hE1 hE2 he hk h64 h
  subst hv
  generalize l.length = n at *
  go_enter Tryd.func4, Tryd.ntmps4
  go_wp2_with (first
    | (go_at_call 8; (with_reducible refine (HF.out _ WT.out).mono ?_); rintro e w1 ⟨rfl, hT⟩; have WT := Lib.hid hT; clear hT)
    | (go_at_call 14; (with_reducible refine (HR1.out _ (WordsAt.turn' H.out WT.out)).mono ?_); rintro e w2 ⟨rfl, hT⟩; have HB1 := Lib.hid (heap_new w2 (.cells #[.int .u64 m, .int .i64 ml, .int .u64 q, .int .i64 fr, .int .i64 ql, .int .u64 s, .int .i64 sl] 24)); have WT := Lib.hid ((WT.out.trans hT (by simp)).alloc (.cells #[.int .u64 m, .int .i64 ml, .int .u64 q, .int .i64 fr, .int .i64 ql, .int .u64 s, .int .i64 sl] 24)); clear hT)
    | (go_at_call 15; (with_reducible refine (HR2.out _ (WordsAt.turn' H.out WT.out)).mono ?_); rintro e w3 ⟨rfl, hT⟩; have T1 := Lib.hid (hT.alloc (.cells #[.int .u64 m, .int .i64 ml, .int .u64 q, .int .i64 fr, .int .i64 ql, .int .u64 s, .int .i64 sl] 24)); have HB2 := Lib.hid (heap_new w3 (.cells #[.int .u64 m, .int .i64 ml, .int .u64 q, .int .i64 fr, .int .i64 ql, .int .u64 s, .int .i64 sl] 24)); have WT := Lib.hid ((WT.out.trans hT (by simp)).alloc (.cells #[.int .u64 m, .int .i64 ml, .int .u64 q, .int .i64 fr, .int .i64 ql, .int .u64 s, .int .i64 sl] 24)); clear hT)
    | (go_at_call 16; (with_reducible refine (HE1.out _ (WordsAt.turn' H.out WT.out) WT.out).mono ?_); rintro e w4 ⟨rfl, hT⟩; have T1 := Lib.hid ((T1.out.trans hT (by simp)).alloc (.cells #[.int .i64 es, .int .u64 en, .int .u64 ex] 26)); have T2 := Lib.hid (hT.alloc (.cells #[.int .i64 es, .int .u64 en, .int .u64 ex] 26)); have HB3 := Lib.hid (heap_new w4 (.cells #[.int .i64 es, .int .u64 en, .int .u64 ex] 26)); have WT := Lib.hid ((WT.out.trans hT (by simp)).alloc (.cells #[.int .i64 es, .int .u64 en, .int .u64 ex] 26)); clear hT)
    | (go_at_call 17; (with_reducible refine (HE2.out _ (WordsAt.turn' H.out WT.out)).mono ?_); rintro e w5 ⟨rfl, hT⟩; have T1 := Lib.hid ((T1.out.trans hT (by simp)).alloc (.cells #[.int .i64 es, .int .u64 en, .int .u64 ex] 26)); have T2 := Lib.hid ((T2.out.trans hT (by simp)).alloc (.cells #[.int .i64 es, .int .u64 en, .int .u64 ex] 26)); have T3 := Lib.hid (hT.alloc (.cells #[.int .i64 es, .int .u64 en, .int .u64 ex] 26)); have WT := Lib.hid ((WT.out.trans hT (by simp)).alloc (.cells #[.int .i64 es, .int .u64 en, .int .u64 ex] 26)); obtain ⟨⟨e0, e1, e2, e3, e4, e5, e6⟩, _⟩ := blk7 (T1.out.keep HB1.out (by simp)); obtain ⟨⟨f0, f1, f2, f3, f4, f5, f6⟩, _⟩ := blk7 (T2.out.keep HB2.out (by simp)); obtain ⟨⟨d0, d1, d2⟩, _⟩ := blk3 (T3.out.keep HB3.out (by simp)); clear hT))
  go_ret
  exact ⟨rfl, WT.out⟩
end Hed
end Go.Proofs.YtmjdcpcndggflaaDoor
