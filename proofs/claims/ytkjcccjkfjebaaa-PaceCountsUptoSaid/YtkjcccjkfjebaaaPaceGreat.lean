/- great: is it too much to be asked? -/
import Derived.Test.YtkjcccjkfjebaaaPaceStates
set_option linter.unusedVariables false
set_option linter.unusedSimpArgs false
namespace Go.Proofs.Ytkjcccjkfjebaaa
namespace Pac
open Go.RowKit Go.Maps Arn

/-- How much rows count for. -/
def heft (R : List RowV) : Nat := (R.map fun x => 10 + x.2.length).sum
theorem heft_take {R : List RowV} {j : Nat} {y : RowV} (h : R[j]? = some y) : heft (R.take (j + 1)) = heft (R.take j) + (10 + y.2.length) := by
  unfold heft
  rw [List.take_add_one, h]
  simp
theorem heft_le (R : List RowV) (j : Nat) : heft (R.take j) ≤ heft R := by
  have h := congrArg heft (List.take_append_drop j R)
  unfold heft at h ⊢
  rw [List.map_append, List.sum_append] at h
  omega
theorem heft_all (R : List RowV) : heft (R.take R.length) = heft R := by rw [List.take_length]
theorem heft_len (R : List RowV) : R.length * 10 ≤ heft R := by
  unfold heft
  induction R with
  | nil => simp
  | cons x t ih => simp only [List.map_cons, List.sum_cons, List.length_cons] at ih ⊢; omega
theorem rows_form {w : World} {v : Value} {R : List RowV} (h : RowsAt w v R) : ∃ a c, v = .slice a R.length c := by
  rcases h.1 with ⟨h1, rfl⟩ | ⟨g, o, c, h1, _⟩
  · exact ⟨none, 0, h1⟩
  · exact ⟨_, c, h1⟩
theorem rows_cell {w : World} {a : Option Addr} {n c : Nat} {R : List RowV} (h : RowsAt w (.slice a n c) R) {j : Nat} {y : RowV} (hy : R[j]? = some y) : ∃ g o, a = some ⟨g, o, none⟩ ∧ w.cell? ⟨g, o + j, none⟩ = some y.1 := by
  rcases h.1 with ⟨_, rfl⟩ | ⟨g, o, c, h1, _, _, h2⟩
  · simp at hy
  · simp only [Value.slice.injEq] at h1
    exact ⟨g, o, h1.1, h2 j y hy⟩
theorem words_form {w : World} {v : Value} {l : List Int} (h : WordsAt w v l) : ∃ a c, v = .slice a l.length c := by
  rcases h with ⟨h1, rfl⟩ | ⟨a, c, h1, _⟩
  · exact ⟨none, 0, h1⟩
  · exact ⟨_, c, h1⟩
set_option maxRecDepth 100000 in
set_option maxHeartbeats 4000000 in
theorem great_any (wv pv : Value) (R Q : List RowV) (g : Nat) (kind : Int) (ax ah : Option Addr) (nx cx nh ch : Nat) (w : World) (hw : RowsAt w wv R) (hp : RowsAt w pv Q)
    (c0 : w.cell? ⟨g, 0, none⟩ = some (.int .i64 kind)) (c1 : w.cell? ⟨g, 1, none⟩ = some (.slice ax nx cx)) (c2 : w.cell? ⟨g, 2, none⟩ = some (.slice ah nh ch)) (c3 : w.cell? ⟨g, 3, none⟩ = some pv)
    (hs : heft R + (10 + nx + nh) + heft Q ≤ 1000000000) :
    Calls Try.prog 46 #[wv, .slice (some ⟨g, 0, none⟩) 1 1, .slice none 0 0] w fun e w' => e = .returned (.bool (decide (2000 < heft R + (10 + nx + nh) + heft Q))) ∧ Frm.Turn [] w w' := by
  obtain ⟨wa, wc, rfl⟩ := rows_form hw
  obtain ⟨pa, pc, rfl⟩ := rows_form hp
  obtain ⟨n, HN⟩ : ∃ n, Hid (n = R.length) := ⟨_, Lib.hid rfl⟩
  obtain ⟨m, HM⟩ : ∃ m, Hid (m = Q.length) := ⟨_, Lib.hid rfl⟩
  have HW := Lib.hid hw
  have HP := Lib.hid hp
  have hn : n ≤ 1000000000 := by have := heft_len R; rw [HN.out]; omega
  have hm : m ≤ 1000000000 := by have := heft_len Q; rw [HM.out]; omega
  rw [← HM.out] at c3 HP
  rw [← HN.out] at HW ⊢
  obtain ⟨s, HSs⟩ : ∃ s, Hid (s = heft R) := ⟨_, Lib.hid rfl⟩
  obtain ⟨t, HTt⟩ : ∃ t, Hid (t = heft Q) := ⟨_, Lib.hid rfl⟩
  rw [← HSs.out, ← HTt.out] at hs ⊢
  clear hw hp
  go_enter Try.func46, Try.ntmps46
  go_wp2_with fail
  go_loop [7, 9, 18] (fun u b i => ∃ j : Nat, j ≤ n ∧ i = .int .i64 j ∧ u = .int .i64 (heft (R.take j) : Int)) (fun _ _ i => n - (intOf i).toNat)
  case atStart => exact ⟨0, Nat.zero_le _, rfl, by simp [heft]⟩
  case round =>
    obtain ⟨j, hj, rfl, rfl⟩ := hrel
    by_cases hlt : j < n
    · obtain ⟨y, hy⟩ : ∃ y, R[j]? = some y := ⟨_, List.getElem?_eq_getElem (by rw [← HN.out]; exact hlt)⟩
      obtain ⟨og, oo, rfl, hcA⟩ := rows_cell HW.out hy
      obtain ⟨ya, yc, hyf⟩ := words_form (HW.out.2 y (List.mem_of_getElem? hy))
      rw [hyf] at hcA
      have HS := Lib.hid (heft_take hy)
      have hp1 := heft_le R (j + 1)
      rw [HS.out, ← HSs.out] at hp1
      clear hy hyf
      generalize heft (R.take j) = q at hp1 HS ⊢
      generalize y.2.length = k at hcA HS hp1
      go_wp2
      refine ⟨⟨j + 1, by omega, by simp, by rw [HS.out]; simp⟩, ?_⟩
      simp [intOf]; omega
    · obtain rfl : j = n := by omega
      have e1 : heft (R.take j) = s := by rw [HSs.out, HN.out, heft_all]
      rw [e1]
      clear e1 hlt hj
      go_wp2_with fail
      go_loopw [7, 11, 13, 30] (fun u p b i wr => ∃ j : Nat, j ≤ 1 ∧ i = .int .i64 j ∧ u = .int .i64 ((s + (if j = 0 then 0 else (10 + nx + nh) + t) : Nat) : Int) ∧ Frm.Turn [] w wr) (fun _ _ _ i _ => 1 - (intOf i).toNat)
      case atStart => exact ⟨0, by omega, rfl, by simp, Frm.Turn.refl [] _⟩
      case round =>
        obtain ⟨i, hi, rfl, rfl, hT⟩ := hrel
        rcases Nat.lt_or_ge i 1 with h0 | h0
        · obtain rfl : i = 0 := by omega
          have d0 := hT.cell c0 (by simp)
          have d1 := hT.cell c1 (by simp)
          have d2 := hT.cell c2 (by simp)
          have d3 := hT.cell c3 (by simp)
          have HT := Lib.hid hT
          clear hT c0 c1 c2 c3 h0 hi
          simp only [if_pos, Nat.add_zero]
          rw [show ((0 : Nat) : Int) = 0 from rfl]
          go_wp2_with fail
          have HT2 := Lib.hid (HT.out.alloc (.cells #[.int .i64 kind, .slice ax nx cx, .slice ah nh ch, .slice pa m pc] 86))
          generalize wr.alloc (.cells #[.int .i64 kind, .slice ax nx cx, .slice ah nh ch, .slice pa m pc] 86) = W at HT2 ⊢
          clear d0 d1 d2 d3 HT
          go_loop [7, 13, 47] (fun u b i => ∃ j : Nat, j ≤ m ∧ i = .int .i64 j ∧ u = .int .i64 ((s + (10 + nx + nh) + heft (Q.take j) : Nat) : Int)) (fun _ _ i => m - (intOf i).toNat)
          case atStart => exact ⟨0, Nat.zero_le _, rfl, by simp [heft]⟩
          case round =>
            obtain ⟨k, hk, rfl, rfl⟩ := hrel
            by_cases hlt : k < m
            · obtain ⟨y, hy⟩ : ∃ y, Q[k]? = some y := ⟨_, List.getElem?_eq_getElem (by rw [← HM.out]; exact hlt)⟩
              obtain ⟨og, oo, rfl, hcA⟩ := rows_cell HP.out hy
              obtain ⟨ya, yc, hyf⟩ := words_form (HP.out.2 y (List.mem_of_getElem? hy))
              rw [hyf] at hcA
              have hcB := HT2.out.cell hcA (by simp)
              have HS := Lib.hid (heft_take hy)
              have hp1 := heft_le Q (k + 1)
              rw [HS.out, ← HTt.out] at hp1
              clear hy hyf hcA
              generalize heft (Q.take k) = q at hp1 HS ⊢
              generalize y.2.length = ln at hcB HS hp1
              obtain ⟨z, HZ⟩ : ∃ z, Hid (z = s + (10 + nx + nh) + q) := ⟨_, Lib.hid rfl⟩
              rw [← HZ.out]
              have hz : z + (10 + ln) ≤ 1000000000 := by rw [HZ.out]; omega
              go_wp2
              refine ⟨⟨k + 1, by omega, by simp, by rw [HS.out]; simp; rw [HZ.out]; omega⟩, ?_⟩
              simp [intOf]; omega
            · obtain rfl : k = m := by omega
              have e1 : heft (Q.take k) = t := by rw [HTt.out, HM.out, heft_all]
              rw [e1]
              clear e1 hlt hk
              go_wp2
              refine ⟨⟨1, by omega, by simp, by simp; omega, HT2.out⟩, ?_⟩
              simp [intOf]
        · obtain rfl : i = 1 := by omega
          have HT := Lib.hid hT
          clear hT c0 c1 c2 c3 h0 hi
          simp only [show ¬ (1 = 0) by omega, if_false]
          obtain ⟨z, HZ⟩ : ∃ z, Hid (z = s + (10 + nx + nh + t)) := ⟨_, Lib.hid rfl⟩
          rw [← HZ.out, show ((1 : Nat) : Int) = 1 from rfl]
          by_cases hz : 2000 < z
          · have e1 : decide ((2000 : Int) < (z : Int)) = true := by simp; omega
            go_wp2
            go_ret
            refine ⟨?_, HT.out⟩
            rw [show decide (2000 < s + (10 + nx + nh) + t) = true from by rw [HZ.out] at hz; simp; omega]
            rfl
          · have e1 : decide ((2000 : Int) < (z : Int)) = false := by simp; omega
            go_wp2
            go_ret
            refine ⟨?_, HT.out⟩
            rw [show decide (2000 < s + (10 + nx + nh) + t) = false from by rw [HZ.out] at hz; simp; omega]
            rfl
end Pac
end Go.Proofs.Ytkjcccjkfjebaaa
