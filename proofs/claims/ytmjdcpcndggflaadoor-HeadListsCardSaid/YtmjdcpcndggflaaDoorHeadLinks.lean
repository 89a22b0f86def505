/- Links, right heads, the words of a head. -/
import Derived.Test.YtmjdcpcndggflaaDoorHeadMem
import Derived.Test.YtmjdcpcndggflaaDoorHeadFields
import Derived.Test.YtmjdcpcndggflaaDoorHeadRight
set_option linter.unusedVariables false
set_option linter.unusedSimpArgs false
namespace Go.Proofs.YtmjdcpcndggflaaDoor
namespace Hed
open Go.RowKit Go.Maps Arn

theorem w64f {a : Int} (h : W64 a) : Fld.W64 a := ⟨h.1, by have := h.2; omega⟩
theorem take_all {l : List Int} {k : Nat} (h : k < l.length) : (l.take (k + 1)).all linkB = ((l.take k).all linkB && linkB (l.getD k 0)) := by
  rw [List.take_add_one, List.all_append, List.getElem?_eq_getElem h, List.getD_eq_getElem?_getD, List.getElem?_eq_getElem h]
  simp
theorem all_false {l : List Int} {k : Nat} (h : k < l.length) (hf : linkB (l.getD k 0) = false) : l.all linkB = false := by
  rw [List.all_eq_false]
  refine ⟨l[k], List.getElem_mem h, ?_⟩
  rw [List.getD_eq_getElem?_getD, List.getElem?_eq_getElem h] at hf
  simpa using hf
set_option maxRecDepth 100000 in
set_option maxHeartbeats 4000000 in
theorem links_any (l : List Int) (v : Value) (w : World) (h : WordsAt w v l) (hl : l.length ≤ 100) (h64 : ∀ x, x ∈ l → W64 x) :
    Calls Tryd.prog 40 #[v] w fun e w' => e = .returned (.bool (l.all linkB)) ∧ Frm.Turn [] w w' := by
  obtain ⟨a, c, rfl⟩ := WordsAt.form' h
  have H := Lib.hid h
  have H64 := Lib.hid h64
  obtain ⟨n, HN⟩ : ∃ n, Hid (n = l.length) := ⟨_, Lib.hid rfl⟩
  obtain ⟨r, HR⟩ : ∃ r, Hid (r = l.all linkB) := ⟨_, Lib.hid rfl⟩
  rw [← HR.out]
  rw [← HN.out] at hl ⊢
  clear h h64
  go_enter Tryd.func40, Tryd.ntmps40
  go_wp2
  go_loopw [7] (fun i wr => ∃ k : Nat, k ≤ n ∧ i = .int .i64 k ∧ Hid ((l.take k).all linkB = true) ∧ Frm.Turn [] w wr) (fun i _ => n - (intOf i).toNat)
  case atStart => exact ⟨0, Nat.zero_le _, rfl, Lib.hid rfl, Frm.Turn.refl [] _⟩
  case round =>
    obtain ⟨k, hk, rfl, hA, hT⟩ := hrel
    by_cases hlt : k < n
    · obtain ⟨b1, d1, e1, q1⟩ := WordsAt.cellAt H.out (by rw [← HN.out]; omega)
      simp only [Value.slice.injEq] at e1
      obtain ⟨rfl, _, rfl⟩ := e1
      have hkl : k < l.length := by rw [← HN.out]; exact hlt
      have x1 := hT.cell (q1 k _ (u64s_get hkl)) (by simp)
      have hx64 : W64 (l.getD k 0) := H64.out _ (by rw [List.getD_eq_getElem?_getD, List.getElem?_eq_getElem hkl]; simp)
      have HTK := Lib.hid (take_all hkl)
      have HF := Lib.hid (fun hf => all_false hkl hf)
      have i1 : (k : Int) < (n : Int) := by omega
      have i0 : (0 : Int) ≤ (k : Int) := by omega
      have HT := Lib.hid hT
      clear hT q1 hkl
      generalize l.getD k 0 = z at x1 hx64 HTK HF
      by_cases hz : z = 0
      · subst hz
        go_wp2_with fail
        go_roundw
        case rel => exact ⟨k + 1, by omega, by simp, Lib.hid (by rw [HTK.out, hA.out]; rfl), HT.out⟩
        case measure => simp [intOf]; omega
      · have t1 : (z != 0) = true := by simpa using hz
        cases hr : Fld.rightB z with
        | true =>
          have HRI := Lib.hid (fun W => Fld.right_is z W (w64f hx64) true hr)
          have HLK : Hid (linkB z = true) := Lib.hid (by unfold linkB; rw [hr]; simp)
          clear hr
          go_wp2_with (go_at_call 50; (with_reducible refine (HRI.out _).mono ?_); rintro e w1 ⟨rfl, rfl⟩)
          go_roundw
          case rel => exact ⟨k + 1, by omega, by simp, Lib.hid (by rw [HTK.out, hA.out, HLK.out]; rfl), HT.out⟩
          case measure => simp [intOf]; omega
        | false =>
          have HRI := Lib.hid (fun W => Fld.right_is z W (w64f hx64) false hr)
          have HLK : Hid (linkB z = false) := Lib.hid (by unfold linkB; rw [hr]; simp [hz])
          clear hr
          go_wp2_with (go_at_call 50; (with_reducible refine (HRI.out _).mono ?_); rintro e w1 ⟨rfl, rfl⟩)
          go_ret
          exact ⟨by rw [HR.out, HF.out HLK.out]; rfl, HT.out⟩
    · obtain rfl : k = n := by omega
      have HT := Lib.hid hT
      clear hT
      go_wp2
      go_ret
      exact ⟨by have h1 := hA.out; rw [HN.out, List.take_length] at h1; rw [HR.out, h1]; rfl, HT.out⟩
def headB (c m ml q fr ql s sl : Int) : Bool := Drf.rightV ml fr ql sl && [c, m, q, s].all linkB
theorem headB_parts {c m ml q fr ql s sl : Int} (h : headB c m ml q fr ql s sl = true) : (0 ≤ ml ∧ ml ≤ 256) ∧ (0 ≤ fr ∧ fr ≤ 255) ∧ (0 ≤ ql ∧ ql ≤ 256) ∧ (0 ≤ sl ∧ sl ≤ 256) ∧ linkB c = true ∧ linkB m = true ∧ linkB q = true ∧ linkB s = true := by
  simp only [headB, Drf.rightV_is, Bool.and_eq_true, decide_eq_true_eq, List.all_cons, List.all_nil, and_true] at h
  obtain ⟨⟨⟨⟨⟨⟨⟨⟨a1, a2⟩, a3⟩, a4⟩, a5⟩, a6⟩, a7⟩, a8⟩, b1, b2, b3, b4⟩ := h
  exact ⟨⟨a1, a2⟩, ⟨a7, a8⟩, ⟨a3, a4⟩, ⟨a5, a6⟩, b1, b2, b3, b4⟩
abbrev verV (m ml q fr ql s sl : Int) : Value := .agg #[.int .u64 m, .int .i64 ml, .int .u64 q, .int .i64 fr, .int .i64 ql, .int .u64 s, .int .i64 sl]
def verO (m ml q fr ql s sl : Int) : Obj := .cells #[.int .u64 m, .int .i64 ml, .int .u64 q, .int .i64 fr, .int .i64 ql, .int .u64 s, .int .i64 sl] 24
set_option maxRecDepth 100000 in
set_option maxHeartbeats 4000000 in
theorem isHead_any (c m ml q fr ql s sl : Int) (w : World) (hc : W64 c) (hm : W64 m) (hq : W64 q) (hs : W64 s) :
    Calls Tryd.prog 26 #[.int .u64 c, .agg #[.int .u64 m, .int .i64 ml, .int .u64 q, .int .i64 fr, .int .i64 ql, .int .u64 s, .int .i64 sl]] w fun e w' => e = .returned (.bool (headB c m ml q fr ql s sl)) ∧ Frm.Turn [] w w' := by
  have HT := Lib.hid (fun o => (Frm.Turn.refl [] w).alloc o)
  have HB : Hid ((w.alloc (verO m ml q fr ql s sl)).heap[w.heap.size]? = some (verO m ml q fr ql s sl)) := Lib.hid (heap_new w _)
  unfold verO at HB
  have HR := Lib.hid (fun W => Drf.Right_any m ml q fr ql s sl W)
  have HL : Hid (∀ W : World, Calls Tryd.prog 40 #[.slice (some ⟨W.heap.size, 0, none⟩) 4 4] (W.alloc (.cells #[.int .u64 c, .int .u64 m, .int .u64 q, .int .u64 s] 22)) fun e w' => e = .returned (.bool ([c, m, q, s].all linkB)) ∧ Frm.Turn [] (W.alloc (.cells #[.int .u64 c, .int .u64 m, .int .u64 q, .int .u64 s] 22)) w') :=
    Lib.hid fun W => links_any [c, m, q, s] _ _ (words_made W [c, m, q, s]) (by simp) (by intro x hx; simp at hx; rcases hx with rfl | rfl | rfl | rfl <;> assumption)
  unfold headB
  generalize Drf.rightV ml fr ql sl = b1 at HR ⊢
  generalize [c, m, q, s].all linkB = b2 at HL ⊢
  clear hc hm hq hs
  cases b1
  · go_enter Tryd.func26, Tryd.ntmps26
    go_wp2_with (go_at_call 39; (with_reducible refine (HR.out _).mono ?_); rintro e w1 ⟨rfl, hT⟩; have HT1 := Lib.hid ((HT.out _).trans hT (by simp)); clear hT)
    go_ret
    exact ⟨rfl, HT1.out⟩
  · go_enter Tryd.func26, Tryd.ntmps26
    go_wp2_with (first
      | (go_at_call 39; (with_reducible refine (HR.out _).mono ?_); rintro e w1 ⟨rfl, hT⟩; obtain ⟨⟨e0, e1, e2, e3, e4, e5, e6⟩, f0, f1, f2, f3, f4, f5, f6⟩ := blk7 (hT.keep HB.out (by simp)); have HT1 := Lib.hid ((HT.out _).trans hT (by simp)); clear hT)
      | (go_at_call 40; (with_reducible refine (HL.out _).mono ?_); rintro e w2 ⟨rfl, hT⟩; have HT2 := Lib.hid ((HT1.out.alloc _).trans hT (by simp)); clear hT))
    go_ret
    exact ⟨rfl, HT2.out⟩
end Hed
end Go.Proofs.YtmjdcpcndggflaaDoor
