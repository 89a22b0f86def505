/- Two lists held against each other; a machine that steps again and again. -/
import Derived.Test.YtfbnidjcimcfoaaHoldSegs
import Derived.Test.YtfbnidjcimcfoaaHoldFetch
import Derived.Test.YtfbnidjcimcfoaaHoldClear
import Derived.Deep.QuietTactic
import Derived.BigQuiet
set_option linter.unusedVariables false
set_option linter.unusedSimpArgs false
namespace Go.Proofs.Ytfbnidjcimcfoaa
namespace Hld
open Go.RowKit Go.Maps Arn Pac Clm Cnt Sta

variable {w W W' : World} {b k n r : Nat} {A : Ar} {ps : List Part} {sg h rt ha hb : Int} {bw : List Int}
theorem u64s_get {l : List Int} {j : Nat} (h : j < l.length) : (u64s l)[j]? = some (.int .u64 (l.getD j 0)) := by
  simp [u64s, h]
theorem wordsAt_cell {w : World} {v : Value} {l : List Int} (h : WordsAt w v l) (hp : 0 < l.length) : ∃ a c, v = .slice (some a) l.length c ∧ ∀ j u, (u64s l)[j]? = some u → w.cell? (a.add j) = some u := by
  rcases h with ⟨rfl, rfl⟩ | ⟨a, c, rfl, h⟩
  · simp at hp
  · exact ⟨a, c, rfl, h⟩
set_option maxHeartbeats 1000000 in
theorem words_same {w : World} {v1 v2 : Value} {l : List Int} (h1 : WordsAt w v1 l) (h2 : WordsAt w v2 l) (hl : l.length ≤ 60000) :
    Calls Try.prog 40 #[v1, v2] w fun e w' => e = .returned (.bool true) ∧ Frm.Turn [] w w' := by
  obtain ⟨a1, c1, hv1⟩ : ∃ a c, v1 = .slice a l.length c := by
    rcases h1 with ⟨rfl, rfl⟩ | ⟨a, c, rfl, _⟩ <;> exact ⟨_, _, rfl⟩
  obtain ⟨a2, c2, hv2⟩ : ∃ a c, v2 = .slice a l.length c := by
    rcases h2 with ⟨rfl, rfl⟩ | ⟨a, c, rfl, _⟩ <;> exact ⟨_, _, rfl⟩
  subst hv1
  subst hv2
  have H1 := Lib.hid h1
  have H2 := Lib.hid h2
  obtain ⟨n, HN⟩ : ∃ n, Hid (n = l.length) := ⟨_, Lib.hid rfl⟩
  rw [← HN.out] at hl ⊢
  clear h1 h2
  go_enter Try.func40, Try.ntmps40
  go_wp2
  go_loopw [13] (fun i wr => ∃ k : Nat, k ≤ n ∧ i = .int .i64 k ∧ Frm.Turn [] w wr) (fun i _ => n - (intOf i).toNat)
  case atStart => exact ⟨0, Nat.zero_le _, rfl, Frm.Turn.refl [] _⟩
  case round =>
    obtain ⟨k, hk, rfl, hT⟩ := hrel
    by_cases hlt : k < n
    · obtain ⟨b1, d1, e1, q1⟩ := wordsAt_cell H1.out (by rw [← HN.out]; omega)
      obtain ⟨b2, d2, e2, q2⟩ := wordsAt_cell H2.out (by rw [← HN.out]; omega)
      simp only [Value.slice.injEq] at e1 e2
      obtain ⟨rfl, _, rfl⟩ := e1
      obtain ⟨rfl, _, rfl⟩ := e2
      have x1 := hT.cell (q1 k _ (u64s_get (by rw [← HN.out]; omega))) (by simp)
      have x2 := hT.cell (q2 k _ (u64s_get (by rw [← HN.out]; omega))) (by simp)
      have i1 : (k : Int) < (n : Int) := by omega
      have i0 : (0 : Int) ≤ (k : Int) := by omega
      have HT := Lib.hid hT
      clear hT q1 q2
      generalize l.getD k 0 = z at x1 x2
      go_wp2_with fail
      go_quiet (fail)
      go_wp2
      refine ⟨⟨k + 1, by omega, by simp, by repeat (first | exact HT.out | apply Frm.Turn.drewN | apply Frm.Turn.drew)⟩, ?_⟩
      simp [intOf]; omega
    · obtain rfl : k = n := by omega
      have HT := Lib.hid hT
      clear hT
      go_wp2
      go_ret
      exact ⟨rfl, HT.out⟩
theorem words_alike {w : World} {v1 v2 : Value} {l : List Int} (h1 : WordsAt w v1 l) (h2 : WordsAt w v2 l) (hl : l.length ≤ 60000) :
    Calls Try.prog 17 #[v1, v2] w fun e w' => e = .returned (.int .i64 1) ∧ Frm.Turn [] w w' := by
  have H := Lib.hid (words_same h1 h2 hl)
  obtain ⟨a1, c1, hv1⟩ : ∃ a c, v1 = .slice a l.length c := by
    rcases h1 with ⟨rfl, rfl⟩ | ⟨a, c, rfl, _⟩ <;> exact ⟨_, _, rfl⟩
  obtain ⟨a2, c2, hv2⟩ : ∃ a c, v2 = .slice a l.length c := by
    rcases h2 with ⟨rfl, rfl⟩ | ⟨a, c, rfl, _⟩ <;> exact ⟨_, _, rfl⟩
  subst hv1
  subst hv2
  clear h1 h2
  go_enter Try.func17, Try.ntmps17
  go_wp2_with (go_at_call 40; (with_reducible refine (H.out).mono ?_); rintro e w1 ⟨rfl, hT⟩; have HT := Lib.hid hT; clear hT)
  go_ret
  exact ⟨rfl, HT.out⟩
/-! ### what three, six and two steps make -/
/-- A grip behind j steps, when the root stays. -/
def gAt (sg rt : Int) (j : Nat) : Gp := if j = 0 then Gp.new sg 0 else if j = 1 then ⟨2, sg, 0, rt, 0⟩ else if j = 2 then ⟨3, sg, 0, rt, 0⟩ else ⟨0, sg, 0, rt, 1⟩
theorem gAt_fit (h0 : sg ≠ 0) (h1 : W64 sg) (h2 : W64 rt) (j : Nat) : (gAt sg rt j).Fit := by
  unfold gAt Gp.new
  repeat' split
  all_goals exact ⟨h0, h1, by show 0 < 255; omega, by first | exact h2 | exact w64_zero, by dsimp only; omega⟩
theorem gAt_step (H : HV A sg h rt ha hb bw) {j : Nat} (hj : j < 3) : ∃ ha', HV ((gAt sg rt j).step A).1 sg h rt ha' hb bw ∧ ((gAt sg rt j).step A).2 = gAt sg rt (j + 1) ∧ (j = 1 → ha' = rt / 1048576) ∧ (j ≠ 1 → ha' = ha) := by
  have ew : 5 * ((ofN 0 : Nat) : Int) + 3 = 3 := by rw [of0]; rfl
  have : j = 0 ∨ j = 1 ∨ j = 2 := by omega
  rcases this with rfl | rfl | rfl
  · refine ⟨ha, H.read 0 0, ?_, by omega, by omega⟩
    show ({ Gp.new sg 0 with root := (A.read 0 0).2.1, st := 2 } : Gp) = _
    rw [H.root]; rfl
  · refine ⟨rt / 1048576, ?_, rfl, by omega, by omega⟩
    show HV (A.write sg (5 * ((ofN 0 : Nat) : Int) + 3) (rt / 1048576)).1 _ _ _ _ _ _
    rw [ew]
    exact H.putA (top64 H.rt64)
  · refine ⟨ha, H.read 0 0, ?_, by omega, by omega⟩
    show (⟨0, sg, 0, rt, if (A.read 0 0).2.1 = rt then 1 else 2⟩ : Gp) = _
    rw [H.root, if_pos rfl]; rfl
/-- A fetch of all of the block's words behind j steps, when the root is the one. -/
def fAt (sg rt h : Int) (bw : List Int) (j : Nat) : Fe := if j = 0 then Fe.new sg 0 rt h bw.length else if j = 1 then ⟨2, sg, 0, rt, h, bw.length, [], 0⟩ else if j < 2 + bw.length then ⟨3, sg, 0, rt, h, bw.length, bw.take (j - 2), 0⟩ else ⟨0, sg, 0, rt, h, bw.length, bw, 1⟩
theorem fAt_ws (j : Nat) : (fAt sg rt h bw j).ws.length ≤ bw.length := by
  unfold fAt Fe.new
  repeat' split
  all_goals dsimp only
  all_goals first | (simp; done) | (rw [List.length_take]; omega)
theorem fAt_fit (h0 : sg ≠ 0) (h1 : W64 sg) (h2 : W64 rt) (h3 : W64 h) (hw : ∀ x, x ∈ bw → W64 x) (j : Nat) : (fAt sg rt h bw j).Fit := by
  unfold fAt Fe.new
  repeat' split
  · exact ⟨h0, h1, by show 0 < 255; omega, h3, h2, by simp, by dsimp only; omega⟩
  · exact ⟨h0, h1, by show 0 < 255; omega, h3, h2, by simp, by dsimp only; omega⟩
  · exact ⟨h0, h1, by show 0 < 255; omega, h3, h2, fun x hx => hw x (List.mem_of_mem_take hx), by dsimp only; omega⟩
  · exact ⟨h0, h1, by show 0 < 255; omega, h3, h2, hw, by dsimp only; omega⟩
theorem fAt_step (H : HV A sg h rt ha hb bw) (h64 : W64 h) (hb1 : 1 ≤ bw.length) {j : Nat} (hj : j < 2 + bw.length) : ∃ hb', HV ((fAt sg rt h bw j).step A).1 sg h rt ha hb' bw ∧ ((fAt sg rt h bw j).step A).2 = fAt sg rt h bw (j + 1) ∧ (j = 0 → hb' = h) ∧ (j ≠ 0 → hb' = hb) := by
  have ew : 5 * ((ofN 0 : Nat) : Int) + 4 = 4 := by rw [of0]; rfl
  by_cases e0 : j = 0
  · subst e0
    refine ⟨h, ?_, rfl, by omega, by omega⟩
    show HV (A.write sg (5 * ((ofN 0 : Nat) : Int) + 4) h).1 _ _ _ _ _ _
    rw [ew]
    exact H.putB h64
  by_cases e1 : j = 1
  · subst e1
    refine ⟨hb, H.read 0 0, ?_, by omega, by omega⟩
    show (if (A.read 0 0).2.1 = rt then (⟨2, sg, 0, rt, h, bw.length, [], 0⟩ : Fe).goOn else _) = _
    rw [H.root, if_pos rfl]
    unfold Fe.goOn
    rw [if_neg (by show ¬ (bw.length : Int) ≤ 0; omega)]
    unfold fAt
    rw [if_neg (by omega), if_neg (by omega), if_pos (by omega)]
    simp
  · have es : fAt sg rt h bw j = ⟨3, sg, 0, rt, h, bw.length, bw.take (j - 2), 0⟩ := by unfold fAt; rw [if_neg e0, if_neg e1, if_pos hj]
    have hl : (bw.take (j - 2)).length = j - 2 := by rw [List.length_take]; omega
    have er : (A.read h ((bw.take (j - 2)).length : Int)).2 = (bw.getD (j - 2) 0, 0) := by
      rw [H.word (i := ((bw.take (j - 2)).length : Int)) (by omega) (by rw [hl]; omega), hl]
      rfl
    rw [es]
    refine ⟨hb, H.read _ _, ?_, by omega, fun _ => rfl⟩
    show ((⟨3, sg, 0, rt, h, bw.length, bw.take (j - 2), 0⟩ : Fe).add (A.read h ((bw.take (j - 2)).length : Int)).2.1).goOn = _
    rw [er]
    have et : bw.take (j - 2) ++ [bw.getD (j - 2) 0] = bw.take (j - 1) := by
      have : j - 1 = j - 2 + 1 := by omega
      rw [this, List.take_add_one, List.getD_eq_getElem?_getD, List.getElem?_eq_getElem (by omega)]
      rfl
    show Fe.goOn ⟨3, sg, 0, rt, h, bw.length, bw.take (j - 2) ++ [bw.getD (j - 2) 0], 0⟩ = _
    rw [et]
    have hl2 : (bw.take (j - 1)).length = j - 1 := by rw [List.length_take]; omega
    unfold Fe.goOn
    dsimp only
    rw [hl2]
    by_cases e2 : j + 1 < 2 + bw.length
    · rw [if_neg (by omega)]
      unfold fAt
      rw [if_neg (by omega), if_neg (by omega), if_pos e2]
      rfl
    · rw [if_pos (by omega)]
      unfold fAt
      rw [if_neg (by omega), if_neg (by omega), if_neg e2, List.take_of_length_le (by omega)]
/-- A list of numbers as an argument. -/
def KindC (K : IntKind) (W : World) (v : Value) (z : Nat → Int) (m : Nat) : Prop := (∃ ao c, v = .slice ao m c) ∧ (m = 0 ∨ ∃ ga c, v = .slice (some ga) m c ∧ ∀ i, i < m → W.cell? (ga.add i) = some (.int K (z i)))
theorem add_0 (a : Addr) : a.add 0 = a := by
  unfold Addr.add; split
  · rfl
  · exact absurd rfl ‹_›
end Hld
end Go.Proofs.Ytfbnidjcimcfoaa
