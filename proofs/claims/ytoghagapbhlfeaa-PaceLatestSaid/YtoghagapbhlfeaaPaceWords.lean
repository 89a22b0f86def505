/- Two lists of words, held against each other; what PaceLatest keeps. -/
import Derived.Test.YtoghagapbhlfeaaPaceFirst
import Derived.Test.YtoghagapbhlfeaaArenaSumsPlain
import Derived.Deep.QuietTactic
import Derived.BigQuiet
set_option linter.unusedVariables false
set_option linter.unusedSimpArgs false
namespace Go.Proofs.Ytoghagapbhlfeaa
namespace Pac
open Go.RowKit Go.Maps Arn

theorem WordsAt.cellAt {w : World} {v : Value} {l : List Int} (h : WordsAt w v l) (hp : 0 < l.length) : ∃ a c, v = .slice (some a) l.length c ∧ ∀ j u, (u64s l)[j]? = some u → w.cell? (a.add j) = some u := by
  rcases h with ⟨rfl, rfl⟩ | ⟨a, c, rfl, h⟩
  · simp at hp
  · exact ⟨a, c, rfl, h⟩
theorem u64s_get {l : List Int} {j : Nat} (h : j < l.length) : (u64s l)[j]? = some (.int .u64 (l.getD j 0)) := by
  simp [u64s, h]
set_option maxHeartbeats 1000000 in
theorem words_same {w : World} {v1 v2 : Value} {l : List Int} (h1 : WordsAt w v1 l) (h2 : WordsAt w v2 l) (hl : l.length ≤ 60000) :
    Calls Try.prog 54 #[v1, v2] w fun e w' => e = .returned (.bool true) ∧ Frm.Turn [] w w' := by
  obtain ⟨a1, c1, hv1⟩ : ∃ a c, v1 = .slice a l.length c := by
    rcases h1 with ⟨rfl, rfl⟩ | ⟨a, c, rfl, _⟩ <;> exact ⟨_, _, rfl⟩
  obtain ⟨a2, c2, hv2⟩ : ∃ a c, v2 = .slice a l.length c := by
    rcases h2 with ⟨rfl, rfl⟩ | ⟨a, c, rfl, _⟩ <;> exact ⟨_, _, rfl⟩
  subst hv1
  subst hv2
  have H1 := Lib.hid h1
  have H2 := Lib.hid h2
  obtain ⟨n, HN⟩ : ∃ n, Hid (n = l.length) := ⟨_, Lib.hid rfl⟩
  rw [← HN.out] at hl ⊢
  clear h1 h2
  go_enter Try.func54, Try.ntmps54
  go_wp2
  go_loopw [13] (fun i wr => ∃ k : Nat, k ≤ n ∧ i = .int .i64 k ∧ Frm.Turn [] w wr) (fun i _ => n - (intOf i).toNat)
  case atStart => exact ⟨0, Nat.zero_le _, rfl, Frm.Turn.refl [] _⟩
  case round =>
    obtain ⟨k, hk, rfl, hT⟩ := hrel
    by_cases hlt : k < n
    · obtain ⟨b1, d1, e1, q1⟩ := WordsAt.cellAt H1.out (by rw [← HN.out]; omega)
      obtain ⟨b2, d2, e2, q2⟩ := WordsAt.cellAt H2.out (by rw [← HN.out]; omega)
      simp only [Value.slice.injEq] at e1 e2
      obtain ⟨rfl, _, rfl⟩ := e1
      obtain ⟨rfl, _, rfl⟩ := e2
      have x1 := hT.cell (q1 k _ (u64s_get (by rw [← HN.out]; omega))) (by simp)
      have x2 := hT.cell (q2 k _ (u64s_get (by rw [← HN.out]; omega))) (by simp)
      have i1 : (k : Int) < (n : Int) := by omega
      have i0 : (0 : Int) ≤ (k : Int) := by omega
      have HT := Lib.hid hT
      clear hT q1 q2
      generalize l.getD k 0 = z at x1 x2
      go_wp2_with fail
      go_quiet (fail)
      go_wp2
      refine ⟨⟨k + 1, by omega, by simp, by repeat (first | exact HT.out | apply Frm.Turn.drewN | apply Frm.Turn.drew)⟩, ?_⟩
      simp [intOf]; omega
    · obtain rfl : k = n := by omega
      have HT := Lib.hid hT
      clear hT
      go_wp2
      go_ret
      exact ⟨rfl, HT.out⟩
/-! ### the fixed word at 0 -/
theorem err00 {A : Ar} (h : A.Ok) : A.err 0 0 = 0 := by
  unfold Ar.err Ar.row
  rw [if_pos rfl]
  have := h.nine
  simp [this]
theorem read00 {A : Ar} (h : A.Ok) : (A.read 0 0).2.1 = A.get 0 0 ∧ (A.read 0 0).1.get 0 0 = A.get 0 0 := by
  unfold Ar.read
  rw [err00 h]
  exact ⟨rfl, rfl⟩
theorem write00 {A : Ar} (h : A.Ok) (v : Int) : (A.write 0 0 v).2 = 0 ∧ (A.write 0 0 v).1.get 0 0 = v := by
  unfold Ar.write
  rw [err00 h]
  refine ⟨rfl, ?_⟩
  have h9 := h.nine
  obtain ⟨a, b, c, d, e, f, g, i, j, hl⟩ := nine_of h9
  show (Ar.get { A.set 0 0 v with t := _ } 0 0) = v
  unfold Ar.set Ar.get Ar.row
  simp [hl]
end Pac
end Go.Proofs.Ytoghagapbhlfeaa
