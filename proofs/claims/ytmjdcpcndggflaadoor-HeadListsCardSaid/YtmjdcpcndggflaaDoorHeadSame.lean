/- Versions, entries held against themselves; two lists of words held against each other. -/
import Derived.Test.YtmjdcpcndggflaaDoorHeadMem
import Derived.Laws.StructEq
import Derived.Deep.QuietTactic
import Derived.BigQuiet
set_option linter.unusedVariables false
set_option linter.unusedSimpArgs false
namespace Go.Proofs.YtmjdcpcndggflaaDoor
namespace Hed
open Go.RowKit Go.Maps Arn

theorem eq_ent_at (d : Nat) (w : World) (a0 a1 a2 : Int) : (Op.equalIn (d + 2) 26 (.agg #[.int .i64 a0, .int .u64 a1, .int .u64 a2]) (.agg #[.int .i64 a0, .int .u64 a1, .int .u64 a2])).run Tryd.prog w = .ok true w := by
  rw [run_equalIn_struct w (d + 1) 26 _ _ (by kernel_rfl) (by kernel_rfl)]
  have p0 : ∀ x0 x1 x2 : Int, (part 3 #[.int .i64 x0, .int .u64 x1, .int .u64 x2] 0).run Tryd.prog w = .ok (.int .i64 x0) w := fun x0 x1 x2 => by kernel_rfl
  have p1 : ∀ x0 x1 x2 : Int, (part 22 #[.int .i64 x0, .int .u64 x1, .int .u64 x2] 1).run Tryd.prog w = .ok (.int .u64 x1) w := fun x0 x1 x2 => by kernel_rfl
  have p2 : ∀ x0 x1 x2 : Int, (part 22 #[.int .i64 x0, .int .u64 x1, .int .u64 x2] 2).run Tryd.prog w = .ok (.int .u64 x2) w := fun x0 x1 x2 => by kernel_rfl
  have eI := fun x : Int => run_equalIn_int (P := Tryd.prog) w d 3 .i64 .i64 x x Tryd.underlying3
  have eU := fun x : Int => run_equalIn_int (P := Tryd.prog) w d 22 .u64 .u64 x x Tryd.underlying22
  have hf : (Tryd.prog.fieldsOf 26).toList.map (fun f => (f.name, f.type, f.offset)) = [("Slot", 3, 0), ("Note", 22, 1), ("Next", 22, 2)] := by kernel_rfl
  obtain ⟨g0, r0, hl, h0, k0⟩ := List.map_eq_cons_iff.1 hf
  obtain ⟨g1, r1, rfl, h1, k1⟩ := List.map_eq_cons_iff.1 k0
  obtain ⟨g2, r2, rfl, h2, k2⟩ := List.map_eq_cons_iff.1 k1
  obtain rfl := List.map_eq_nil_iff.1 k2
  simp only [Prod.mk.injEq] at h0 h1 h2
  obtain ⟨n0, s0, o0⟩ := h0
  obtain ⟨n1, s1, o1⟩ := h1
  obtain ⟨n2, s2, o2⟩ := h2
  rw [hl]
  simp [Op.eqFields, Sem.run_bind, n0, s0, o0, p0, n1, s1, o1, p1, n2, s2, o2, p2, eI, eU]
theorem eq_ent (w : World) (a0 a1 a2 : Int) : (Op.equalIn 10000 26 (.agg #[.int .i64 a0, .int .u64 a1, .int .u64 a2]) (.agg #[.int .i64 a0, .int .u64 a1, .int .u64 a2])).run Tryd.prog w = .ok true w := eq_ent_at 9998 w a0 a1 a2
theorem eq_ver_at (d : Nat) (w : World) (a0 a1 a2 a3 a4 a5 a6 : Int) : (Op.equalIn (d + 2) 24 (.agg #[.int .u64 a0, .int .i64 a1, .int .u64 a2, .int .i64 a3, .int .i64 a4, .int .u64 a5, .int .i64 a6]) (.agg #[.int .u64 a0, .int .i64 a1, .int .u64 a2, .int .i64 a3, .int .i64 a4, .int .u64 a5, .int .i64 a6])).run Tryd.prog w = .ok true w := by
  rw [run_equalIn_struct w (d + 1) 24 _ _ (by kernel_rfl) (by kernel_rfl)]
  have p0 : ∀ x0 x1 x2 x3 x4 x5 x6 : Int, (part 22 #[.int .u64 x0, .int .i64 x1, .int .u64 x2, .int .i64 x3, .int .i64 x4, .int .u64 x5, .int .i64 x6] 0).run Tryd.prog w = .ok (.int .u64 x0) w := fun x0 x1 x2 x3 x4 x5 x6 => by kernel_rfl
  have p1 : ∀ x0 x1 x2 x3 x4 x5 x6 : Int, (part 3 #[.int .u64 x0, .int .i64 x1, .int .u64 x2, .int .i64 x3, .int .i64 x4, .int .u64 x5, .int .i64 x6] 1).run Tryd.prog w = .ok (.int .i64 x1) w := fun x0 x1 x2 x3 x4 x5 x6 => by kernel_rfl
  have p2 : ∀ x0 x1 x2 x3 x4 x5 x6 : Int, (part 22 #[.int .u64 x0, .int .i64 x1, .int .u64 x2, .int .i64 x3, .int .i64 x4, .int .u64 x5, .int .i64 x6] 2).run Tryd.prog w = .ok (.int .u64 x2) w := fun x0 x1 x2 x3 x4 x5 x6 => by kernel_rfl
  have p3 : ∀ x0 x1 x2 x3 x4 x5 x6 : Int, (part 3 #[.int .u64 x0, .int .i64 x1, .int .u64 x2, .int .i64 x3, .int .i64 x4, .int .u64 x5, .int .i64 x6] 3).run Tryd.prog w = .ok (.int .i64 x3) w := fun x0 x1 x2 x3 x4 x5 x6 => by kernel_rfl
  have p4 : ∀ x0 x1 x2 x3 x4 x5 x6 : Int, (part 3 #[.int .u64 x0, .int .i64 x1, .int .u64 x2, .int .i64 x3, .int .i64 x4, .int .u64 x5, .int .i64 x6] 4).run Tryd.prog w = .ok (.int .i64 x4) w := fun x0 x1 x2 x3 x4 x5 x6 => by kernel_rfl
  have p5 : ∀ x0 x1 x2 x3 x4 x5 x6 : Int, (part 22 #[.int .u64 x0, .int .i64 x1, .int .u64 x2, .int .i64 x3, .int .i64 x4, .int .u64 x5, .int .i64 x6] 5).run Tryd.prog w = .ok (.int .u64 x5) w := fun x0 x1 x2 x3 x4 x5 x6 => by kernel_rfl
  have p6 : ∀ x0 x1 x2 x3 x4 x5 x6 : Int, (part 3 #[.int .u64 x0, .int .i64 x1, .int .u64 x2, .int .i64 x3, .int .i64 x4, .int .u64 x5, .int .i64 x6] 6).run Tryd.prog w = .ok (.int .i64 x6) w := fun x0 x1 x2 x3 x4 x5 x6 => by kernel_rfl
  have eI := fun x : Int => run_equalIn_int (P := Tryd.prog) w d 3 .i64 .i64 x x Tryd.underlying3
  have eU := fun x : Int => run_equalIn_int (P := Tryd.prog) w d 22 .u64 .u64 x x Tryd.underlying22
  have hf : (Tryd.prog.fieldsOf 24).toList.map (fun f => (f.name, f.type, f.offset)) = [("Map", 22, 0), ("MapLen", 3, 1), ("Queue", 22, 2), ("Front", 3, 3), ("Len", 3, 4), ("Sem", 22, 5), ("SemLen", 3, 6)] := by kernel_rfl
  obtain ⟨g0, r0, hl, h0, k0⟩ := List.map_eq_cons_iff.1 hf
  obtain ⟨g1, r1, rfl, h1, k1⟩ := List.map_eq_cons_iff.1 k0
  obtain ⟨g2, r2, rfl, h2, k2⟩ := List.map_eq_cons_iff.1 k1
  obtain ⟨g3, r3, rfl, h3, k3⟩ := List.map_eq_cons_iff.1 k2
  obtain ⟨g4, r4, rfl, h4, k4⟩ := List.map_eq_cons_iff.1 k3
  obtain ⟨g5, r5, rfl, h5, k5⟩ := List.map_eq_cons_iff.1 k4
  obtain ⟨g6, r6, rfl, h6, k6⟩ := List.map_eq_cons_iff.1 k5
  obtain rfl := List.map_eq_nil_iff.1 k6
  simp only [Prod.mk.injEq] at h0 h1 h2 h3 h4 h5 h6
  obtain ⟨n0, s0, o0⟩ := h0
  obtain ⟨n1, s1, o1⟩ := h1
  obtain ⟨n2, s2, o2⟩ := h2
  obtain ⟨n3, s3, o3⟩ := h3
  obtain ⟨n4, s4, o4⟩ := h4
  obtain ⟨n5, s5, o5⟩ := h5
  obtain ⟨n6, s6, o6⟩ := h6
  rw [hl]
  simp [Op.eqFields, Sem.run_bind, n0, s0, o0, p0, n1, s1, o1, p1, n2, s2, o2, p2, n3, s3, o3, p3, n4, s4, o4, p4, n5, s5, o5, p5, n6, s6, o6, p6, eI, eU]
theorem eq_ver (w : World) (a0 a1 a2 a3 a4 a5 a6 : Int) : (Op.equalIn 10000 24 (.agg #[.int .u64 a0, .int .i64 a1, .int .u64 a2, .int .i64 a3, .int .i64 a4, .int .u64 a5, .int .i64 a6]) (.agg #[.int .u64 a0, .int .i64 a1, .int .u64 a2, .int .i64 a3, .int .i64 a4, .int .u64 a5, .int .i64 a6])).run Tryd.prog w = .ok true w := eq_ver_at 9998 w a0 a1 a2 a3 a4 a5 a6
set_option maxHeartbeats 1000000 in
theorem words_same {w : World} {v1 v2 : Value} {l : List Int} (h1 : WordsAt w v1 l) (h2 : WordsAt w v2 l) (hl : l.length ≤ 60000) :
    Calls Tryd.prog 31 #[v1, v2] w fun e w' => e = .returned (.bool true) ∧ Frm.Turn [] w w' := by
  obtain ⟨a1, c1, hv1⟩ : ∃ a c, v1 = .slice a l.length c := by
    rcases h1 with ⟨rfl, rfl⟩ | ⟨a, c, rfl, _⟩ <;> exact ⟨_, _, rfl⟩
  obtain ⟨a2, c2, hv2⟩ : ∃ a c, v2 = .slice a l.length c := by
    rcases h2 with ⟨rfl, rfl⟩ | ⟨a, c, rfl, _⟩ <;> exact ⟨_, _, rfl⟩
  subst hv1
  subst hv2
  have H1 := Lib.hid h1
  have H2 := Lib.hid h2
  obtain ⟨n, HN⟩ : ∃ n, Hid (n = l.length) := ⟨_, Lib.hid rfl⟩
  rw [← HN.out] at hl ⊢
  clear h1 h2
  go_enter Tryd.func31, Tryd.ntmps31
  go_wp2
  go_loopw [13] (fun i wr => ∃ k : Nat, k ≤ n ∧ i = .int .i64 k ∧ Frm.Turn [] w wr) (fun i _ => n - (intOf i).toNat)
  case atStart => exact ⟨0, Nat.zero_le _, rfl, Frm.Turn.refl [] _⟩
  case round =>
    obtain ⟨k, hk, rfl, hT⟩ := hrel
    by_cases hlt : k < n
    · obtain ⟨b1, d1, e1, q1⟩ := WordsAt.cellAt H1.out (by rw [← HN.out]; omega)
      obtain ⟨b2, d2, e2, q2⟩ := WordsAt.cellAt H2.out (by rw [← HN.out]; omega)
      simp only [Value.slice.injEq] at e1 e2
      obtain ⟨rfl, _, rfl⟩ := e1
      obtain ⟨rfl, _, rfl⟩ := e2
      have x1 := hT.cell (q1 k _ (u64s_get (by rw [← HN.out]; omega))) (by simp)
      have x2 := hT.cell (q2 k _ (u64s_get (by rw [← HN.out]; omega))) (by simp)
      have i1 : (k : Int) < (n : Int) := by omega
      have i0 : (0 : Int) ≤ (k : Int) := by omega
      have HT := Lib.hid hT
      clear hT q1 q2
      generalize l.getD k 0 = z at x1 x2
      go_wp2_with fail
      go_quiet (fail)
      go_wp2
      refine ⟨⟨k + 1, by omega, by simp, by repeat (first | exact HT.out | apply Frm.Turn.drewN | apply Frm.Turn.drew)⟩, ?_⟩
      simp [intOf]; omega
    · obtain rfl : k = n := by omega
      have HT := Lib.hid hT
      clear hT
      go_wp2
      go_ret
      exact ⟨rfl, HT.out⟩
theorem Words_same {w : World} {v1 v2 : Value} {l : List Int} (h1 : WordsAt w v1 l) (h2 : WordsAt w v2 l) (hl : l.length ≤ 60000) :
    Calls Tryd.prog 13 #[v1, v2] w fun e w' => e = .returned (.int .i64 1) ∧ Frm.Turn [] w w' := by
  have H := Lib.hid (words_same h1 h2 hl)
  clear h1 h2 hl
  go_enter Tryd.func13, Tryd.ntmps13
  go_wp2_with (go_at_call 31; (with_reducible refine (H.out).mono ?_); rintro e w1 ⟨rfl, hT⟩; have HT := Lib.hid hT; clear hT)
  go_ret
  exact ⟨rfl, HT.out⟩
end Hed
end Go.Proofs.YtmjdcpcndggflaaDoor
