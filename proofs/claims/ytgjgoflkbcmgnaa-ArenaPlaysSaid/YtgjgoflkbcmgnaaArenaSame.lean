/- Same of two arenas. -/
import Derived.Test.YtgjgoflkbcmgnaaArenaEqual
import Derived.Test.YtgjgoflkbcmgnaaArenaClone
import Derived.Laws.StructEq
set_option linter.unusedVariables false
set_option linter.unusedSimpArgs false
namespace Go.Proofs.Ytgjgoflkbcmgnaa
namespace Arn
open Go.RowKit Hp Go.Maps

theorem size_nine : (Try.prog.info? 52).map (·.size) = some 9 := by kernel_rfl
theorem under_nine : Try.prog.underlying 52 = some (.array 9 29) := by kernel_rfl
theorem load_nine {w : World} {b : Nat} {M : Mem} {A : Ar} (h : ArAt w b M A) : (loadVar 52 ⟨b, 2, none⟩).run Try.prog w = .ok (.agg (u64s A.fixed).toArray) w := by
  have hn := h.ok.nine
  have hl : (loadCells ⟨b, 2, none⟩ (u64s A.fixed).length).run Try.prog w = .ok (u64s A.fixed).toArray w :=
    run_loadCells_list (P := Try.prog) w ⟨b, 2, none⟩ (u64s A.fixed) (fun j v hv => by
      have hadd : (⟨b, 2, none⟩ : Addr).add j = ⟨b, 2 + j, none⟩ := by
        unfold Addr.add; split
        · rename_i e; simp [e]
        · rfl
      rw [hadd]
      simp [u64s] at hv
      obtain ⟨x, hx, rfl⟩ := hv
      exact h.fix hx)
  rw [length_u64s, hn] at hl
  have hi := size_nine
  cases hq : Try.prog.info? 52 with
  | none => simp [hq] at hi
  | some i =>
    have hs : i.size = 9 := by simpa [hq] using hi
    have hagg : (isAgg 52).run Try.prog w = .ok true w := by
      unfold isAgg
      rw [Sem.run_bind, run_underlying under_nine w]
      simp
    simp [loadVar, Sem.run_bind, hagg, sizeOf, typeInfo, hq, hs, hl]
theorem size_u64 (w : World) : (sizeOf 29).run Try.prog w = .ok 1 w := by
  obtain ⟨i, h1, h2, h3, h4⟩ := info_parts info_u64
  simp [sizeOf, typeInfo, h1, h3]
theorem equal_nine_at (D : Nat) (w : World) (a0 a1 a2 a3 a4 a5 a6 a7 a8 b0 b1 b2 b3 b4 b5 b6 b7 b8 : Int)
    (e0 : ∀ x y : Int, (Op.equalIn D 29 (.int .u64 x) (.int .u64 y)).run Try.prog w = .ok (x == y) w) :
    (Op.equalIn (D + 1) 52 (.agg #[.int .u64 a0, .int .u64 a1, .int .u64 a2, .int .u64 a3, .int .u64 a4, .int .u64 a5, .int .u64 a6, .int .u64 a7, .int .u64 a8]) (.agg #[.int .u64 b0, .int .u64 b1, .int .u64 b2, .int .u64 b3, .int .u64 b4, .int .u64 b5, .int .u64 b6, .int .u64 b7, .int .u64 b8])).run Try.prog w
      = .ok (a0 == b0 && (a1 == b1 && (a2 == b2 && (a3 == b3 && (a4 == b4 && (a5 == b5 && (a6 == b6 && (a7 == b7 && a8 == b8)))))))) w := by
  have p0 : ∀ x0 x1 x2 x3 x4 x5 x6 x7 x8 : Int, (part 29 #[.int .u64 x0, .int .u64 x1, .int .u64 x2, .int .u64 x3, .int .u64 x4, .int .u64 x5, .int .u64 x6, .int .u64 x7, .int .u64 x8] 0).run Try.prog w = .ok (.int .u64 x0) w := fun _ _ _ _ _ _ _ _ _ => by kernel_rfl
  have p1 : ∀ x0 x1 x2 x3 x4 x5 x6 x7 x8 : Int, (part 29 #[.int .u64 x0, .int .u64 x1, .int .u64 x2, .int .u64 x3, .int .u64 x4, .int .u64 x5, .int .u64 x6, .int .u64 x7, .int .u64 x8] 1).run Try.prog w = .ok (.int .u64 x1) w := fun _ _ _ _ _ _ _ _ _ => by kernel_rfl
  have p2 : ∀ x0 x1 x2 x3 x4 x5 x6 x7 x8 : Int, (part 29 #[.int .u64 x0, .int .u64 x1, .int .u64 x2, .int .u64 x3, .int .u64 x4, .int .u64 x5, .int .u64 x6, .int .u64 x7, .int .u64 x8] 2).run Try.prog w = .ok (.int .u64 x2) w := fun _ _ _ _ _ _ _ _ _ => by kernel_rfl
  have p3 : ∀ x0 x1 x2 x3 x4 x5 x6 x7 x8 : Int, (part 29 #[.int .u64 x0, .int .u64 x1, .int .u64 x2, .int .u64 x3, .int .u64 x4, .int .u64 x5, .int .u64 x6, .int .u64 x7, .int .u64 x8] 3).run Try.prog w = .ok (.int .u64 x3) w := fun _ _ _ _ _ _ _ _ _ => by kernel_rfl
  have p4 : ∀ x0 x1 x2 x3 x4 x5 x6 x7 x8 : Int, (part 29 #[.int .u64 x0, .int .u64 x1, .int .u64 x2, .int .u64 x3, .int .u64 x4, .int .u64 x5, .int .u64 x6, .int .u64 x7, .int .u64 x8] 4).run Try.prog w = .ok (.int .u64 x4) w := fun _ _ _ _ _ _ _ _ _ => by kernel_rfl
  have p5 : ∀ x0 x1 x2 x3 x4 x5 x6 x7 x8 : Int, (part 29 #[.int .u64 x0, .int .u64 x1, .int .u64 x2, .int .u64 x3, .int .u64 x4, .int .u64 x5, .int .u64 x6, .int .u64 x7, .int .u64 x8] 5).run Try.prog w = .ok (.int .u64 x5) w := fun _ _ _ _ _ _ _ _ _ => by kernel_rfl
  have p6 : ∀ x0 x1 x2 x3 x4 x5 x6 x7 x8 : Int, (part 29 #[.int .u64 x0, .int .u64 x1, .int .u64 x2, .int .u64 x3, .int .u64 x4, .int .u64 x5, .int .u64 x6, .int .u64 x7, .int .u64 x8] 6).run Try.prog w = .ok (.int .u64 x6) w := fun _ _ _ _ _ _ _ _ _ => by kernel_rfl
  have p7 : ∀ x0 x1 x2 x3 x4 x5 x6 x7 x8 : Int, (part 29 #[.int .u64 x0, .int .u64 x1, .int .u64 x2, .int .u64 x3, .int .u64 x4, .int .u64 x5, .int .u64 x6, .int .u64 x7, .int .u64 x8] 7).run Try.prog w = .ok (.int .u64 x7) w := fun _ _ _ _ _ _ _ _ _ => by kernel_rfl
  have p8 : ∀ x0 x1 x2 x3 x4 x5 x6 x7 x8 : Int, (part 29 #[.int .u64 x0, .int .u64 x1, .int .u64 x2, .int .u64 x3, .int .u64 x4, .int .u64 x5, .int .u64 x6, .int .u64 x7, .int .u64 x8] 8).run Try.prog w = .ok (.int .u64 x8) w := fun _ _ _ _ _ _ _ _ _ => by kernel_rfl
  simp only [Op.equalIn, Sem.run_bind, run_underlying under_nine, Result.andThen_ok, size_u64, Std.Legacy.Range.forIn_eq_forIn_range', Std.Legacy.Range.size]
  cases h0 : (a0 == b0)
  · simp [List.range', Sem.run_bind, p0, e0, h0]
  cases h1 : (a1 == b1)
  · simp [List.range', Sem.run_bind, p0, p1, e0, h0, h1]
  cases h2 : (a2 == b2)
  · simp [List.range', Sem.run_bind, p0, p1, p2, e0, h0, h1, h2]
  cases h3 : (a3 == b3)
  · simp [List.range', Sem.run_bind, p0, p1, p2, p3, e0, h0, h1, h2, h3]
  cases h4 : (a4 == b4)
  · simp [List.range', Sem.run_bind, p0, p1, p2, p3, p4, e0, h0, h1, h2, h3, h4]
  cases h5 : (a5 == b5)
  · simp [List.range', Sem.run_bind, p0, p1, p2, p3, p4, p5, e0, h0, h1, h2, h3, h4, h5]
  cases h6 : (a6 == b6)
  · simp [List.range', Sem.run_bind, p0, p1, p2, p3, p4, p5, p6, e0, h0, h1, h2, h3, h4, h5, h6]
  cases h7 : (a7 == b7)
  · simp [List.range', Sem.run_bind, p0, p1, p2, p3, p4, p5, p6, p7, e0, h0, h1, h2, h3, h4, h5, h6, h7]
  cases h8 : (a8 == b8)
  · simp [List.range', Sem.run_bind, p0, p1, p2, p3, p4, p5, p6, p7, p8, e0, h0, h1, h2, h3, h4, h5, h6, h7, h8]
  · simp [List.range', Sem.run_bind, p0, p1, p2, p3, p4, p5, p6, p7, p8, e0, h0, h1, h2, h3, h4, h5, h6, h7, h8]
theorem equal_nine (w : World) (l1 l2 : List Int) (h1 : l1.length = 9) (h2 : l2.length = 9) :
    (Op.equalIn 10000 52 (.agg (u64s l1).toArray) (.agg (u64s l2).toArray)).run Try.prog w = .ok (l1 == l2) w := by
  obtain ⟨a0, a1, a2, a3, a4, a5, a6, a7, a8, rfl⟩ := nine_of h1
  obtain ⟨b0, b1, b2, b3, b4, b5, b6, b7, b8, rfl⟩ := nine_of h2
  have hb : ([a0, a1, a2, a3, a4, a5, a6, a7, a8] == [b0, b1, b2, b3, b4, b5, b6, b7, b8]) = (a0 == b0 && (a1 == b1 && (a2 == b2 && (a3 == b3 && (a4 == b4 && (a5 == b5 && (a6 == b6 && (a7 == b7 && a8 == b8)))))))) := by
    simp [List.cons_beq_cons]
  rw [hb]
  exact equal_nine_at 9999 w a0 a1 a2 a3 a4 a5 a6 a7 a8 b0 b1 b2 b3 b4 b5 b6 b7 b8 (fun x y => run_equalIn_int w 9998 29 .u64 .u64 x y under_u64)

def sameAr (A1 A2 : Ar) : Bool := (A1.fixed == A2.fixed) && sameSet A1.L A2.L
attribute [local go_sem ↓] Go.wp_at_zero Go.wp_at_succ
theorem same_nil (w : World) : Calls Try.prog 25 #[.pointer none, .pointer none] w fun e w' => e = .returned (.bool true) ∧ w = w' := by
  go_enter Try.func25, Try.ntmps25
  go_wp2
  go_ret
  exact ⟨rfl, rfl⟩
theorem range_nine {w : World} {b : Nat} {M : Mem} {A : Ar} (h : ArAt w b M A) : w.rangeAt b 2 (u64s A.fixed) := fun j v hv => by
  simp [u64s] at hv
  obtain ⟨x, hx, rfl⟩ := hv
  exact h.fix hx
set_option maxRecDepth 100000 in
set_option maxHeartbeats 1000000 in
theorem same_any {w : World} {b1 b2 : Nat} {M1 M2 : Mem} {A1 A2 : Ar} (h1 : ArAt w b1 M1 A1) (h2 : ArAt w b2 M2 A2) :
    Calls Try.prog 25 #[.pointer (some ⟨b1, 0, none⟩), .pointer (some ⟨b2, 0, none⟩)] w fun e w' => e = .returned (.bool (sameAr A1 A2)) ∧ Frm.Turn [] w w' := by
  have H1 := Lib.hid h1
  have H2 := Lib.hid h2
  have k1 : w.drew.cell? ⟨b1, 11, none⟩ = some (.map (some M1.m)) := h1.cells.c11
  have k2 : w.drew.cell? ⟨b2, 11, none⟩ = some (.map (some M2.m)) := h2.cells.c11
  have HS : Hid (∀ w', Frm.Turn [] w.drew w' → w'.rangeAt b1 2 (u64s A1.fixed) ∧ w'.rangeAt b2 2 (u64s A2.fixed) ∧ w'.cell? ⟨b1, 11, none⟩ = some (.map (some M1.m)) ∧ w'.cell? ⟨b2, 11, none⟩ = some (.map (some M2.m))) :=
    Lib.hid fun w' hT => have t := ((Frm.Turn.refl [] w).drew).trans hT (by simp); ⟨range_nine (H1.out.step t), range_nine (H2.out.step t), (H1.out.step t).cells.c11, (H2.out.step t).cells.c11⟩
  have r1 := range_nine h1
  have r2 := range_nine h2
  have hi9 : ∀ l : List Int, l.length = 9 → (Try.prog.info? 52).map (·.size) = some (u64s l).length := fun l hl => by rw [length_u64s, hl]; exact size_nine
  have i1 := hi9 _ h1.ok.nine
  have i2 := hi9 _ h2.ok.nine
  have HE := Lib.hid (fun w => equal_nine w A1.fixed A2.fixed h1.ok.nine h2.ok.nine)
  have HM := Lib.hid (mequal_any (H1.out.step ((Frm.Turn.refl [] w).drew)) (H2.out.step ((Frm.Turn.refl [] w).drew)))
  clear h1 h2 hi9
  generalize hc1 : u64s A1.fixed = C1 at r1 i1 HE HS
  generalize hc2 : u64s A2.fixed = C2 at r2 i2 HE HS
  clear hc1 hc2
  have hun := under_nine
  cases hev : (A1.fixed == A2.fixed) with
  | false =>
    have hE1 : ∀ w, (Op.equalIn 10000 52 (.agg C1.toArray) (.agg C2.toArray)).run Try.prog w = .ok false w := by rw [← hev]; exact HE.out
    have HEV := Lib.hid hev
    clear hev
    go_enter Try.func25, Try.ntmps25
    go_wp2
    refine wp_region_held_drew (S := fun w' => w'.rangeAt b1 2 C1 ∧ w'.rangeAt b2 2 C2) (by kernel_rfl) ?_ (fun hHeld => ?_)
    · exact ⟨r1, r2⟩
    refine wpAnyH_take (i := 0) (v := ?_) rfl (by kernel_rfl) (by kernel_rfl) (by kernel_rfl) (fun _ _ _ h => h) (Or.inl ⟨by rfl, ?_⟩) (by assumption) ?_
    rotate_left
    · (intro w hSw; (try dsimp only at hSw); go_simp; try with_reducible rfl)
    simp only [Act.put, List.setIfInBounds_toArray, List.set_cons_zero, List.set_cons_succ]
    refine wpAnyH_take (i := 1) (v := ?_) rfl (by kernel_rfl) (by kernel_rfl) (by kernel_rfl) (fun _ _ _ h => h) (Or.inl ⟨by rfl, ?_⟩) (by assumption) ?_
    rotate_left
    · (intro w hSw; (try dsimp only at hSw); go_simp; try with_reducible rfl)
    simp only [Act.put, List.setIfInBounds_toArray, List.set_cons_zero, List.set_cons_succ]
    refine wpAnyH_take (i := 2) (v := ?_) rfl (by kernel_rfl) (by kernel_rfl) (by kernel_rfl) (fun _ _ _ h => h) (Or.inl ⟨by rfl, ?_⟩) (by assumption) ?_
    rotate_left
    · (intro w hSw; (try dsimp only at hSw); go_simp; try with_reducible rfl)
    simp only [Act.put, List.setIfInBounds_toArray, List.set_cons_zero, List.set_cons_succ]
    refine wpAnyH_take (i := 3) (v := _) rfl (by kernel_rfl) (by kernel_rfl) (by kernel_rfl) (fun _ _ _ h => h)
          (yieldsIf_load_mid (by rfl) _ _ rfl b1 2 rfl C1 _ (fun w hw => hw.1) hun rfl i1) (by assumption) ?_
    simp only [Act.put, List.setIfInBounds_toArray, List.set_cons_zero, List.set_cons_succ]
    refine wpAnyH_take (i := 4) (v := ?_) rfl (by kernel_rfl) (by kernel_rfl) (by kernel_rfl) (fun _ _ _ h => h) (Or.inl ⟨by rfl, ?_⟩) (by assumption) ?_
    rotate_left
    · (intro w hSw; (try dsimp only at hSw); go_simp; try with_reducible rfl)
    simp only [Act.put, List.setIfInBounds_toArray, List.set_cons_zero, List.set_cons_succ]
    refine wpAnyH_take (i := 5) (v := ?_) rfl (by kernel_rfl) (by kernel_rfl) (by kernel_rfl) (fun _ _ _ h => h) (Or.inl ⟨by rfl, ?_⟩) (by assumption) ?_
    rotate_left
    · (intro w hSw; (try dsimp only at hSw); go_simp; try with_reducible rfl)
    simp only [Act.put, List.setIfInBounds_toArray, List.set_cons_zero, List.set_cons_succ]
    refine wpAnyH_take (i := 6) (v := ?_) rfl (by kernel_rfl) (by kernel_rfl) (by kernel_rfl) (fun _ _ _ h => h) (Or.inl ⟨by rfl, ?_⟩) (by assumption) ?_
    rotate_left
    · (intro w hSw; (try dsimp only at hSw); go_simp; try with_reducible rfl)
    simp only [Act.put, List.setIfInBounds_toArray, List.set_cons_zero, List.set_cons_succ]
    refine wpAnyH_take (i := 7) (v := _) rfl (by kernel_rfl) (by kernel_rfl) (by kernel_rfl) (fun _ _ _ h => h)
          (yieldsIf_load_mid (by simp [Region.wanted]) _ _ rfl b2 2 rfl C2 _ (fun w hw => hw.2) hun rfl i2) (by assumption) ?_
    simp only [Act.put, List.setIfInBounds_toArray, List.set_cons_zero, List.set_cons_succ]
    refine wpAnyH_take (i := 8) (v := ?_) rfl (by kernel_rfl) (by kernel_rfl) (by kernel_rfl) (fun _ _ _ h => h) (Or.inl ⟨by rfl, ?_⟩) (by assumption) ?_
    rotate_left
    · (intro w hSw; (try dsimp only at hSw); go_simp; try with_reducible rfl)
    simp only [Act.put, List.setIfInBounds_toArray, List.set_cons_zero, List.set_cons_succ]
    refine wpAnyH_take (i := 9) (v := ?_) rfl (by kernel_rfl) (by kernel_rfl) (by kernel_rfl) (fun _ _ _ h => h) (Or.inl ⟨by rfl, ?_⟩) (by assumption) ?_
    rotate_left
    · (intro w hSw; (try dsimp only at hSw); go_simp; try with_reducible rfl)
    simp only [Act.put, List.setIfInBounds_toArray, List.set_cons_zero, List.set_cons_succ]
    refine wpAnyH_take (i := 10) (v := undef) rfl (by kernel_rfl) (by kernel_rfl) (by kernel_rfl) (fun _ _ _ h => h) (Or.inr ⟨by simp [Region.wanted, yielded], rfl⟩) (by assumption) ?_
    simp only [Act.put, List.getElem_toArray, List.getElem_cons_succ, List.getElem_cons_zero, List.setIfInBounds_toArray, List.set_cons_zero, List.set_cons_succ]
    refine wpAnyH_take (i := 11) (v := undef) rfl (by kernel_rfl) (by kernel_rfl) (by kernel_rfl) (fun _ _ _ h => h) (Or.inr ⟨by simp [Region.wanted, yielded], rfl⟩) (by assumption) ?_
    simp only [Act.put, List.getElem_toArray, List.getElem_cons_succ, List.getElem_cons_zero, List.setIfInBounds_toArray, List.set_cons_zero, List.set_cons_succ]
    refine wpAnyH_take (i := 12) (v := undef) rfl (by kernel_rfl) (by kernel_rfl) (by kernel_rfl) (fun _ _ _ h => h) (Or.inr ⟨by simp [Region.wanted, yielded], rfl⟩) (by assumption) ?_
    simp only [Act.put, List.getElem_toArray, List.getElem_cons_succ, List.getElem_cons_zero, List.setIfInBounds_toArray, List.set_cons_zero, List.set_cons_succ]
    refine wpAnyH_take (i := 13) (v := undef) rfl (by kernel_rfl) (by kernel_rfl) (by kernel_rfl) (fun _ _ _ h => h) (Or.inr ⟨by simp [Region.wanted, yielded], rfl⟩) (by assumption) ?_
    simp only [Act.put, List.getElem_toArray, List.getElem_cons_succ, List.getElem_cons_zero, List.setIfInBounds_toArray, List.set_cons_zero, List.set_cons_succ]
    refine wpAnyH_take (i := 14) (v := undef) rfl (by kernel_rfl) (by kernel_rfl) (by kernel_rfl) (fun _ _ _ h => h) (Or.inr ⟨by simp [Region.wanted, yielded], rfl⟩) (by assumption) ?_
    simp only [Act.put, List.getElem_toArray, List.getElem_cons_succ, List.getElem_cons_zero, List.setIfInBounds_toArray, List.set_cons_zero, List.set_cons_succ]
    refine wpAnyH_take (i := 15) (v := undef) rfl (by kernel_rfl) (by kernel_rfl) (by kernel_rfl) (fun _ _ _ h => h) (Or.inr ⟨by simp [Region.wanted, yielded], rfl⟩) (by assumption) ?_
    simp only [Act.put, List.getElem_toArray, List.getElem_cons_succ, List.getElem_cons_zero, List.setIfInBounds_toArray, List.set_cons_zero, List.set_cons_succ]
    refine wpAnyH_take (i := 16) (v := undef) rfl (by kernel_rfl) (by kernel_rfl) (by kernel_rfl) (fun _ _ _ h => h) (Or.inr ⟨by simp [Region.wanted, yielded], rfl⟩) (by assumption) ?_
    simp only [Act.put, List.getElem_toArray, List.getElem_cons_succ, List.getElem_cons_zero, List.setIfInBounds_toArray, List.set_cons_zero, List.set_cons_succ]
    refine wpAnyH_take (i := 17) (v := undef) rfl (by kernel_rfl) (by kernel_rfl) (by kernel_rfl) (fun _ _ _ h => h) (Or.inr ⟨by simp [Region.wanted, yielded], rfl⟩) (by assumption) ?_
    simp only [Act.put, List.getElem_toArray, List.getElem_cons_succ, List.getElem_cons_zero, List.setIfInBounds_toArray, List.set_cons_zero, List.set_cons_succ]
    refine wpAnyH_take (i := 18) (v := undef) rfl (by kernel_rfl) (by kernel_rfl) (by kernel_rfl) (fun _ _ _ h => h) (Or.inr ⟨by simp [Region.wanted, yielded], rfl⟩) (by assumption) ?_
    simp only [Act.put, List.getElem_toArray, List.getElem_cons_succ, List.getElem_cons_zero, List.setIfInBounds_toArray, List.set_cons_zero, List.set_cons_succ]
    refine wpAnyH_take (i := 19) (v := ?_) rfl (by kernel_rfl) (by kernel_rfl) (by kernel_rfl) (fun _ _ _ h => h) (Or.inl ⟨by rfl, ?_⟩) (by assumption) ?_
    rotate_left
    · (intro w hSw; (try dsimp only at hSw); go_simp; try with_reducible rfl)
    simp only [Act.put, List.getElem_toArray, List.getElem_cons_succ, List.getElem_cons_zero, List.setIfInBounds_toArray, List.set_cons_zero, List.set_cons_succ]
    refine wpAnyH_take (i := 20) (v := ?_) rfl (by kernel_rfl) (by kernel_rfl) (by kernel_rfl) (fun _ _ _ h => h) (Or.inl ⟨by rfl, ?_⟩) (by assumption) ?_
    rotate_left
    · (intro w hSw; (try dsimp only at hSw); go_simp; try with_reducible rfl)
    simp only [Act.put, List.getElem_toArray, List.getElem_cons_succ, List.getElem_cons_zero, List.setIfInBounds_toArray, List.set_cons_zero, List.set_cons_succ]
    refine wpAnyH_done (by kernel_rfl) ?_ _
    all_goals go_wp2
    all_goals go_ret
    all_goals exact ⟨by unfold sameAr; rw [HEV.out]; rfl, (Frm.Turn.refl [] w).drew⟩
  | true =>
    have hE1 : ∀ w, (Op.equalIn 10000 52 (.agg C1.toArray) (.agg C2.toArray)).run Try.prog w = .ok true w := by rw [← hev]; exact HE.out
    have HEV := Lib.hid hev
    clear hev
    go_enter Try.func25, Try.ntmps25
    go_wp2
    refine wp_region_held_drew (S := fun w' => w'.rangeAt b1 2 C1 ∧ w'.rangeAt b2 2 C2 ∧ w'.cell? ⟨b1, 11, none⟩ = some (.map (some M1.m)) ∧ w'.cell? ⟨b2, 11, none⟩ = some (.map (some M2.m))) (by kernel_rfl) ?_ (fun hHeld => ?_)
    · exact ⟨r1, r2, k1, k2⟩
    refine wpAnyH_take (i := 0) (v := ?_) rfl (by kernel_rfl) (by kernel_rfl) (by kernel_rfl) (fun _ _ _ h => h) (Or.inl ⟨by rfl, ?_⟩) (by assumption) ?_
    rotate_left
    · (intro w hSw; (try dsimp only at hSw); go_simp; try with_reducible rfl)
    simp only [Act.put, List.setIfInBounds_toArray, List.set_cons_zero, List.set_cons_succ]
    refine wpAnyH_take (i := 1) (v := ?_) rfl (by kernel_rfl) (by kernel_rfl) (by kernel_rfl) (fun _ _ _ h => h) (Or.inl ⟨by rfl, ?_⟩) (by assumption) ?_
    rotate_left
    · (intro w hSw; (try dsimp only at hSw); go_simp; try with_reducible rfl)
    simp only [Act.put, List.setIfInBounds_toArray, List.set_cons_zero, List.set_cons_succ]
    refine wpAnyH_take (i := 2) (v := ?_) rfl (by kernel_rfl) (by kernel_rfl) (by kernel_rfl) (fun _ _ _ h => h) (Or.inl ⟨by rfl, ?_⟩) (by assumption) ?_
    rotate_left
    · (intro w hSw; (try dsimp only at hSw); go_simp; try with_reducible rfl)
    simp only [Act.put, List.setIfInBounds_toArray, List.set_cons_zero, List.set_cons_succ]
    refine wpAnyH_take (i := 3) (v := _) rfl (by kernel_rfl) (by kernel_rfl) (by kernel_rfl) (fun _ _ _ h => h)
          (yieldsIf_load_mid (by rfl) _ _ rfl b1 2 rfl C1 _ (fun w hw => hw.1) hun rfl i1) (by assumption) ?_
    simp only [Act.put, List.setIfInBounds_toArray, List.set_cons_zero, List.set_cons_succ]
    refine wpAnyH_take (i := 4) (v := ?_) rfl (by kernel_rfl) (by kernel_rfl) (by kernel_rfl) (fun _ _ _ h => h) (Or.inl ⟨by rfl, ?_⟩) (by assumption) ?_
    rotate_left
    · (intro w hSw; (try dsimp only at hSw); go_simp; try with_reducible rfl)
    simp only [Act.put, List.setIfInBounds_toArray, List.set_cons_zero, List.set_cons_succ]
    refine wpAnyH_take (i := 5) (v := ?_) rfl (by kernel_rfl) (by kernel_rfl) (by kernel_rfl) (fun _ _ _ h => h) (Or.inl ⟨by rfl, ?_⟩) (by assumption) ?_
    rotate_left
    · (intro w hSw; (try dsimp only at hSw); go_simp; try with_reducible rfl)
    simp only [Act.put, List.setIfInBounds_toArray, List.set_cons_zero, List.set_cons_succ]
    refine wpAnyH_take (i := 6) (v := ?_) rfl (by kernel_rfl) (by kernel_rfl) (by kernel_rfl) (fun _ _ _ h => h) (Or.inl ⟨by rfl, ?_⟩) (by assumption) ?_
    rotate_left
    · (intro w hSw; (try dsimp only at hSw); go_simp; try with_reducible rfl)
    simp only [Act.put, List.setIfInBounds_toArray, List.set_cons_zero, List.set_cons_succ]
    refine wpAnyH_take (i := 7) (v := _) rfl (by kernel_rfl) (by kernel_rfl) (by kernel_rfl) (fun _ _ _ h => h)
          (yieldsIf_load_mid (by simp [Region.wanted]) _ _ rfl b2 2 rfl C2 _ (fun w hw => hw.2.1) hun rfl i2) (by assumption) ?_
    simp only [Act.put, List.setIfInBounds_toArray, List.set_cons_zero, List.set_cons_succ]
    refine wpAnyH_take (i := 8) (v := ?_) rfl (by kernel_rfl) (by kernel_rfl) (by kernel_rfl) (fun _ _ _ h => h) (Or.inl ⟨by rfl, ?_⟩) (by assumption) ?_
    rotate_left
    · (intro w hSw; (try dsimp only at hSw); go_simp; try with_reducible rfl)
    simp only [Act.put, List.setIfInBounds_toArray, List.set_cons_zero, List.set_cons_succ]
    refine wpAnyH_take (i := 9) (v := ?_) rfl (by kernel_rfl) (by kernel_rfl) (by kernel_rfl) (fun _ _ _ h => h) (Or.inl ⟨by rfl, ?_⟩) (by assumption) ?_
    rotate_left
    · (intro w hSw; (try dsimp only at hSw); go_simp; try with_reducible rfl)
    simp only [Act.put, List.setIfInBounds_toArray, List.set_cons_zero, List.set_cons_succ]
    refine wpAnyH_take (i := 10) (v := ?_) rfl (by kernel_rfl) (by kernel_rfl) (by kernel_rfl) (fun _ _ _ h => h) (Or.inl ⟨by simp [Region.wanted, yielded], ?_⟩) (by assumption) ?_
    rotate_left
    · (intro w hSw; (try dsimp only at hSw); go_simp; try with_reducible rfl)
    simp only [Act.put, List.getElem_toArray, List.getElem_cons_succ, List.getElem_cons_zero, List.setIfInBounds_toArray, List.set_cons_zero, List.set_cons_succ]
    refine wpAnyH_take (i := 11) (v := ?_) rfl (by kernel_rfl) (by kernel_rfl) (by kernel_rfl) (fun _ _ _ h => h) (Or.inl ⟨by simp [Region.wanted, yielded], ?_⟩) (by assumption) ?_
    rotate_left
    · (intro w hSw; (try dsimp only at hSw); go_simp; try with_reducible rfl)
    simp only [Act.put, List.getElem_toArray, List.getElem_cons_succ, List.getElem_cons_zero, List.setIfInBounds_toArray, List.set_cons_zero, List.set_cons_succ]
    refine wpAnyH_take (i := 12) (v := ?_) rfl (by kernel_rfl) (by kernel_rfl) (by kernel_rfl) (fun _ _ _ h => h) (Or.inl ⟨by simp [Region.wanted, yielded], ?_⟩) (by assumption) ?_
    rotate_left
    · (intro w hSw; (try dsimp only at hSw); go_simp; try with_reducible rfl)
    simp only [Act.put, List.getElem_toArray, List.getElem_cons_succ, List.getElem_cons_zero, List.setIfInBounds_toArray, List.set_cons_zero, List.set_cons_succ]
    refine wpAnyH_take (i := 13) (v := ?_) rfl (by kernel_rfl) (by kernel_rfl) (by kernel_rfl) (fun _ _ _ h => h) (Or.inl ⟨by simp [Region.wanted, yielded], ?_⟩) (by assumption) ?_
    rotate_left
    · (intro w hSw; (try dsimp only at hSw); go_simp; try with_reducible rfl)
    simp only [Act.put, List.getElem_toArray, List.getElem_cons_succ, List.getElem_cons_zero, List.setIfInBounds_toArray, List.set_cons_zero, List.set_cons_succ]
    refine wpAnyH_take (i := 14) (v := ?_) rfl (by kernel_rfl) (by kernel_rfl) (by kernel_rfl) (fun _ _ _ h => h) (Or.inl ⟨by simp [Region.wanted, yielded], ?_⟩) (by assumption) ?_
    rotate_left
    · (intro w hSw; (try dsimp only at hSw); go_simp; try with_reducible rfl)
    simp only [Act.put, List.getElem_toArray, List.getElem_cons_succ, List.getElem_cons_zero, List.setIfInBounds_toArray, List.set_cons_zero, List.set_cons_succ]
    refine wpAnyH_take (i := 15) (v := ?_) rfl (by kernel_rfl) (by kernel_rfl) (by kernel_rfl) (fun _ _ _ h => h) (Or.inl ⟨by simp [Region.wanted, yielded], ?_⟩) (by assumption) ?_
    rotate_left
    · (intro w hSw; (try dsimp only at hSw); go_simp; try with_reducible rfl)
    simp only [Act.put, List.getElem_toArray, List.getElem_cons_succ, List.getElem_cons_zero, List.setIfInBounds_toArray, List.set_cons_zero, List.set_cons_succ]
    refine wpAnyH_take (i := 16) (v := ?_) rfl (by kernel_rfl) (by kernel_rfl) (by kernel_rfl) (fun _ _ _ h => h) (Or.inl ⟨by simp [Region.wanted, yielded], ?_⟩) (by assumption) ?_
    rotate_left
    · (intro w hSw; (try dsimp only at hSw); go_simp; try with_reducible rfl)
    simp only [Act.put, List.getElem_toArray, List.getElem_cons_succ, List.getElem_cons_zero, List.setIfInBounds_toArray, List.set_cons_zero, List.set_cons_succ]
    refine wpAnyH_take (i := 17) (v := ?_) rfl (by kernel_rfl) (by kernel_rfl) (by kernel_rfl) (fun _ _ _ h => h) (Or.inl ⟨by simp [Region.wanted, yielded], ?_⟩) (by assumption) ?_
    rotate_left
    · (intro w hSw; (try dsimp only at hSw); go_simp; try with_reducible rfl)
    simp only [Act.put, List.getElem_toArray, List.getElem_cons_succ, List.getElem_cons_zero, List.setIfInBounds_toArray, List.set_cons_zero, List.set_cons_succ]
    refine wpAnyH_ready (rs := [18]) (by kernel_rfl) (by simp) ?_
    refine AllReadyH.cons rfl (fun K hK => ?_) AllReadyH.nil
    simp only [List.getElem_toArray, List.getElem_cons_succ, List.getElem_cons_zero]
    go_simp
    go_at_call 46; (with_reducible refine (HM.out).mono ?_); rintro e w1 ⟨rfl, hT1⟩; have HT1 := Lib.hid hT1; clear hT1
    go_wp2_with fail
    refine hK.out _ _ (HS.out _ HT1.out) (fun hHeld => ?_)
    clear hK K
    try simp only [Act.put, List.getElem_toArray, List.getElem_cons_succ, List.getElem_cons_zero, List.setIfInBounds_toArray, List.set_cons_zero, List.set_cons_succ]
    refine wpAnyH_take (i := 19) (v := ?_) rfl (by kernel_rfl) (by kernel_rfl) (by kernel_rfl) (fun _ _ _ h => h) (Or.inl ⟨by rfl, ?_⟩) (by assumption) ?_
    rotate_left
    · (intro w hSw; (try dsimp only at hSw); go_simp; try with_reducible rfl)
    simp only [Act.put, List.getElem_toArray, List.getElem_cons_succ, List.getElem_cons_zero, List.setIfInBounds_toArray, List.set_cons_zero, List.set_cons_succ]
    refine wpAnyH_take (i := 20) (v := ?_) rfl (by kernel_rfl) (by kernel_rfl) (by kernel_rfl) (fun _ _ _ h => h) (Or.inl ⟨by rfl, ?_⟩) (by assumption) ?_
    rotate_left
    · (intro w hSw; (try dsimp only at hSw); go_simp; try with_reducible rfl)
    simp only [Act.put, List.getElem_toArray, List.getElem_cons_succ, List.getElem_cons_zero, List.setIfInBounds_toArray, List.set_cons_zero, List.set_cons_succ]
    refine wpAnyH_done (by kernel_rfl) ?_ _
    all_goals go_wp2
    all_goals go_ret
    all_goals exact ⟨by unfold sameAr; rw [HEV.out]; rfl, ((Frm.Turn.refl [] w).drew).trans HT1.out (by simp)⟩
end Arn
end Go.Proofs.Ytgjgoflkbcmgnaa
