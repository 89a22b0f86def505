/- Right versions, a new draft, what was dropped of one that dropped nothing. -/
import Derived.Test.YtjginajnegahdaaDoorDraftLaid
import Derived.Lib.SliceRun
set_option linter.unusedVariables false
set_option linter.unusedSimpArgs false
namespace Go.Proofs.YtjginajnegahdaaDoor
namespace Drf
open Go.RowKit Go.Maps

def rightV (ml fr ql sl : Int) : Bool := isLenB ml && isLenB ql && isLenB sl && decide (0 ≤ fr) && decide (fr < 256)
set_option maxRecDepth 100000 in
set_option maxHeartbeats 4000000 in
theorem Right_any (m ml q fr ql s sl : Int) (w : World) : Calls Tryd.prog 19 #[.agg #[.int .u64 m, .int .i64 ml, .int .u64 q, .int .i64 fr, .int .i64 ql, .int .u64 s, .int .i64 sl]] w fun e w' => e = .returned (.bool (rightV ml fr ql sl)) ∧ Frm.Turn [] w w' := by
  have HT := Lib.hid (fun o => (Frm.Turn.refl [] w).alloc o)
  have H1 := Lib.hid (fun W => isLen_any ml W)
  have H2 := Lib.hid (fun W => isLen_any ql W)
  have H3 := Lib.hid (fun W => isLen_any sl W)
  unfold rightV
  generalize isLenB ml = b1 at H1 ⊢
  generalize isLenB ql = b2 at H2 ⊢
  generalize isLenB sl = b3 at H3 ⊢
  by_cases h4 : 0 ≤ fr <;> by_cases h5 : fr < 256
  all_goals
    first | have t4 : decide (0 ≤ fr) = true := by simpa using h4 | have t4 : decide (0 ≤ fr) = false := by simpa using h4
    first | have t5 : decide (fr < 256) = true := by simpa using h5 | have t5 : decide (fr < 256) = false := by simpa using h5
    rw [t4, t5]
    clear h4 h5
    cases b1
    · go_enter Tryd.func19, Tryd.ntmps19
      go_wp2_with (first
        | (go_at_call 46; (with_reducible refine (H1.out _).mono ?_); rintro e w1 ⟨rfl, rfl⟩))
      go_ret
      exact ⟨rfl, HT.out _⟩
    · cases b2
      · go_enter Tryd.func19, Tryd.ntmps19
        go_wp2_with (first
          | (go_at_call 46; (with_reducible refine (H1.out _).mono ?_); rintro e w1 ⟨rfl, rfl⟩)
          | (go_at_call 46; (with_reducible refine (H2.out _).mono ?_); rintro e w1 ⟨rfl, rfl⟩))
        go_ret
        exact ⟨rfl, HT.out _⟩
      · cases b3
        all_goals
          go_enter Tryd.func19, Tryd.ntmps19
          go_wp2_with (first
            | (go_at_call 46; (with_reducible refine (H1.out _).mono ?_); rintro e w1 ⟨rfl, rfl⟩)
            | (go_at_call 46; (with_reducible refine (H2.out _).mono ?_); rintro e w1 ⟨rfl, rfl⟩)
            | (go_at_call 46; (with_reducible refine (H3.out _).mono ?_); rintro e w1 ⟨rfl, rfl⟩))
          go_ret
          exact ⟨rfl, HT.out _⟩
def drO (k : Nat) (m ml q fr ql s sl : Int) : Obj := .cells #[.map (some k), .int .u64 m, .pointer none, .int .u64 q, .pointer none, .int .u64 s, .pointer none, .int .i64 ml, .int .i64 ql, .int .i64 sl, .int .i64 fr, .slice none 0 0, .slice none 0 0, .slice none 0 0, .slice none 0 0, .slice none 0 0] 90
theorem new_at {w : World} {m ml q fr ql s sl : Int} (h0 : W64 m) (h1 : W64 q) (h2 : W64 s) : DAt ((w.alloc (.map #[] 0)).alloc (drO w.heap.size m ml q fr ql s sl)) (w.heap.size + 1) ⟨w.heap.size, 0, [], .slice none 0 0, .slice none 0 0, .slice none 0 0, .slice none 0 0, .slice none 0 0⟩ (Dr.new m ml q fr ql s sl) 0 := by
  have hT : Frm.Turn [] (w.alloc (.map #[] 0)) ((w.alloc (.map #[] 0)).alloc (drO w.heap.size m ml q fr ql s sl)) := (Frm.Turn.refl [] _).alloc _
  have hrow : ∀ l, (Dr.new m ml q fr ql s sl).row l = [] := fun l => by simp [Dr.row, rowOf, Dr.new]
  refine ⟨?_, fun i hi => by simp [Dr.new] at hi, fun l hl => ?_, World.ownsRow_nil _ _ _ _, (kat_made w).turn hT (by simp), new_wf h0 h1 h2, rfl, by simp [foot, Value.ownBlock]⟩
  · have := heap_alloc_new (w.alloc (.map #[] 0)) (drO w.heap.size m ml q fr ql s sl)
    rw [World.size_alloc] at this
    exact this
  · rw [hrow]
    have : Sh.F ⟨w.heap.size, 0, [], .slice none 0 0, .slice none 0 0, .slice none 0 0, .slice none 0 0, .slice none 0 0⟩ l = .slice none 0 0 := by unfold Sh.F; simp
    rw [this]
    exact World.ownsRow_nil _ _ _ _
set_option maxRecDepth 100000 in
set_option maxHeartbeats 4000000 in
theorem New_wrong (m ml q fr ql s sl : Int) (hr : rightV ml fr ql sl = false) (w : World) : Calls Tryd.prog 9 #[.agg #[.int .u64 m, .int .i64 ml, .int .u64 q, .int .i64 fr, .int .i64 ql, .int .u64 s, .int .i64 sl]] w fun e w' => e = .returned (.tuple #[.pointer none, .int .i64 2]) ∧ Frm.Turn [] w w' := by
  have HT := Lib.hid (fun o => (Frm.Turn.refl [] w).alloc o)
  have HR := Lib.hid (fun W => Right_any m ml q fr ql s sl W)
  rw [hr] at HR
  clear hr
  go_enter Tryd.func9, Tryd.ntmps9
  go_wp2_with (go_at_call 19; (with_reducible refine (HR.out _).mono ?_); rintro e w1 ⟨rfl, hT⟩; have HT1 := Lib.hid ((HT.out _).trans hT (by simp)); clear hT)
  exact bodyPost_ret (v := .tuple #[.pointer none, .int .i64 2]) (by simp [results, Tryd.results9]) rfl ⟨rfl, HT1.out⟩
set_option maxRecDepth 100000 in
set_option maxHeartbeats 4000000 in
theorem New_any (m ml q fr ql s sl : Int) (h0 : W64 m) (h1 : W64 q) (h2 : W64 s) (hr : rightV ml fr ql sl = true) (w : World) : Calls Tryd.prog 9 #[.agg #[.int .u64 m, .int .i64 ml, .int .u64 q, .int .i64 fr, .int .i64 ql, .int .u64 s, .int .i64 sl]] w fun e w' =>
    ∃ b S, e = .returned (.tuple #[.pointer (some ⟨b, 0, none⟩), .int .i64 0]) ∧ DAt w' b S (Dr.new m ml q fr ql s sl) 0 ∧ Frm.Turn [] w w' ∧ ∀ k, k ∈ foot b S → w.heap.size ≤ k := by
  have HT := Lib.hid ((Frm.Turn.refl [] w).alloc (.cells #[.int .u64 m, .int .i64 ml, .int .u64 q, .int .i64 fr, .int .i64 ql, .int .u64 s, .int .i64 sl] 34))
  have HB := Lib.hid (heap_alloc_new w (.cells #[.int .u64 m, .int .i64 ml, .int .u64 q, .int .i64 fr, .int .i64 ql, .int .u64 s, .int .i64 sl] 34))
  have HR := Lib.hid (fun W => Right_any m ml q fr ql s sl W)
  have HD := Lib.hid (fun W => new_at (w := W) (ml := ml) (fr := fr) (ql := ql) (sl := sl) h0 h1 h2)
  rw [hr] at HR
  unfold drO at HD
  have hmm := @run_makeMap Tryd.prog
  clear hr h0 h1 h2
  go_enter Tryd.func9, Tryd.ntmps9
  go_upto_region 3 with (go_at_call 19; (with_reducible refine (HR.out _).mono ?_); rintro e w1 ⟨rfl, hT⟩; have HT1 := Lib.hid (HT.out.trans hT (by simp)); have HB1 := Lib.hid (hT.keep HB.out (by simp)); clear hT)
  obtain ⟨⟨v0, v1, v2, v3, v4, v5, v6⟩, f0, f1, f2, f3, f4, f5, f6⟩ := ver_cells HB1.out
  have hz := (Array.getElem?_eq_some_iff.1 HB1.out).1
  go_wp2
  refine bodyPost_ret (v := .tuple #[.pointer (some ⟨w1.heap.size + 1, 0, none⟩), .int .i64 0]) (by simp [results, Tryd.results9]) rfl ⟨_, _, rfl, HD.out w1, (HT1.out.alloc _).alloc _, fun k hk => ?_⟩
  have := HT1.out.size
  simp [foot, Value.ownBlock] at hk
  omega
theorem info_u64 : (Tryd.prog.info? 32).map (fun i => (i.zero, i.size, i.bytes)) = some (some (.int .u64 0), 1, 8) := by kernel_rfl
theorem under_u64s : Tryd.prog.underlying 39 = some (.slice 32) := by kernel_rfl
theorem u64s_one (l : List Int) : ∀ u ∈ u64s l, u.oneCell' = true := by
  intro u hu
  simp [u64s] at hu
  obtain ⟨a, _, rfl⟩ := hu
  rfl
set_option maxHeartbeats 2000000 in
theorem uclone_any (v : Value) (xs : List Int) (w : World) (h : w.ownsRow 0 32 1 v xs.length (u64s xs)) (hn : xs.length ≤ 65536) :
    Calls Tryd.prog 49 #[v] w fun e w' => ∃ v', e = .returned v' ∧ w'.ownsRow 0 32 1 v' xs.length (u64s xs) ∧ Frm.Turn [] w w' := by
  rcases h.2 with ⟨rfl, hz⟩ | ⟨g, c, cur, rfl, _⟩
  · have hq := fun w => Lib.run_eql_slice_nil (P := Tryd.prog) w 39 _ none 0 0 0 0 under_u64s
    have H := Lib.hid h
    clear h hz hn
    go_enter Tryd.func49, Tryd.ntmps49
    go_wp2
    go_ret
    exact ⟨_, rfl, H.out, Frm.Turn.refl _ _⟩
  · obtain ⟨n, hnn⟩ : ∃ n, n = xs.length := ⟨_, rfl⟩
    rw [← hnn] at h hn ⊢
    have hq := fun w => Lib.run_eql_slice_nil (P := Tryd.prog) w 39 _ (some ⟨g, 0, none⟩) n c 0 0 under_u64s
    have H := Lib.hid h
    obtain ⟨i0, hi, hz0, hz1, hz2⟩ := info_parts info_u64
    have HO : Hid ((w.alloc (.cells #[] 32)).ownsRow 0 32 1 (.slice (some ⟨w.heap.size, 0, none⟩) 0 0) 0 []) := Lib.hid (World.ownsRow_made w #[] 0 (Nat.zero_le _) (by simp [maxLen]) (by simp))
    clear h hnn
    go_enter Tryd.func49, Tryd.ntmps49
    go_wp2_with (at_builtin; refine Frm.wpList_append_rows _ rfl (.tmp 5) (.tmp 6) 39 rfl 0 32 i0 (.int .u64 0) 1 8 under_u64s hi hz0 hz1 hz2 rfl (by decide) (.slice (some ⟨w.heap.size, 0, none⟩) 0 0) 0 [] rfl HO.out _ rfl n 0 (u64s xs) (H.out.alloc _) (u64s_one xs) (by unfold maxLen; omega) (by omega) (Nat.zero_le _) ?_; intro v1 w3 hown3 hg3 hl3; simp only [Nat.zero_add, List.nil_append] at hown3; have HO3 := Lib.hid hown3; have HG3 := Lib.hid hg3; have HL3 := Lib.hid hl3; clear hown3 hg3 hl3)
    go_ret
    refine ⟨v1, rfl, HO3.out, ((Frm.Turn.refl [] w).alloc _).trans (Frm.Turn.of_grown HG3.out) (fun k hk => ?_)⟩
    simp [Value.ownBlock] at hk; subst hk; right; omega
set_option maxRecDepth 10000 in
set_option maxHeartbeats 2000000 in
theorem Dropped_any {w : World} {b : Nat} {S : Sh} {D : Dr} {N : Nat} (h : DAt w b S D N) (hN : N ≤ 65536) :
    Calls Tryd.prog 23 #[.pointer (some ⟨b, 0, none⟩)] w fun e w' => ∃ v, e = .returned v ∧ w'.ownsRow 0 32 1 v D.drop.length (u64s D.drop) ∧ Frm.Turn [] w w' := by
  have c5 := h.own.2.2.2.2.1
  have hbl := h.lt b (by simp [foot])
  have HC := Lib.hid (uclone_any S.dv D.drop w h.drop (by have := h.wf.drop; omega))
  obtain ⟨ao, c, hsl⟩ := Frm.row_form h.drop
  obtain ⟨n, hn⟩ : ∃ n, n = D.drop.length := ⟨_, rfl⟩
  rw [hsl] at c5 HC
  rw [← hn] at c5 HC ⊢
  clear h hsl hn
  go_enter Tryd.func23, Tryd.ntmps23
  go_wp2_with (go_at_call 49; (with_reducible refine (HC.out).mono ?_); rintro e w1 ⟨v', rfl, ho, hT⟩; have HO1 := Lib.hid ho; have HT1 := Lib.hid hT; clear hT ho)
  go_ret
  exact ⟨_, rfl, HO1.out, HT1.out⟩
end Drf
end Go.Proofs.YtjginajnegahdaaDoor
