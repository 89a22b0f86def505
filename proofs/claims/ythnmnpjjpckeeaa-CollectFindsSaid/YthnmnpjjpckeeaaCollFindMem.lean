/- found of law 13. -/
/- A collect among those that enter and exit, and what is written down of them, in memory. -/
import Derived.Test.YthnmnpjjpckeeaaCollLaw
import Derived.Deep.CutBlock
import Derived.Deep.DeepCutAuto
import Derived.Test.YthnmnpjjpckeeaaCollFirst
set_option linter.unusedVariables false
set_option linter.unusedSimpArgs false
namespace Go.Proofs.Ythnmnpjjpckeeaa
namespace Col
open Go.RowKit Go.Maps Arn Pac Clm Cnt

variable {w W W' : World} {n kh ab sb r : Nat} {al so : Nat → Bool} {sl : Nat → Nat}
theorem soN_succ (so : Nat → Bool) (i : Nat) : soN so (i + 1) = soN so i + (if so i then 1 else 0) := rfl
theorem soN_le (so : Nat → Bool) (i : Nat) : soN so i ≤ i := by
  have := sum_le (f := fun i => if so i then 1 else 0) (k := 1) i (fun j _ => by
    show (if so j = true then 1 else 0) ≤ 1
    split <;> omega)
  unfold soN; omega
/-- Is it among the first y? -/
def hasB (L : List Nat) (s y : Nat) : Bool := (L.take y).any (· == s)
theorem hasB_succ {L : List Nat} {s y x : Nat} (h : L[y]? = some x) : hasB L s (y + 1) = (hasB L s y || (x == s)) := by
  unfold hasB
  have hy : y < L.length := by
    rcases Nat.lt_or_ge y L.length with h1 | h1
    · exact h1
    · rw [List.getElem?_eq_none h1] at h; cases h
  have e : L.take (y + 1) = L.take y ++ [x] := by
    rw [List.take_add_one, h]; rfl
  rw [e, List.any_append]
  simp
theorem hasB_all {L : List Nat} {s : Nat} : hasB L s L.length = true ↔ s ∈ L := by
  unfold hasB
  rw [List.take_length, List.any_eq_true]
  constructor
  · rintro ⟨x, hx, h⟩
    rw [← beq_iff_eq.1 h]; exact hx
  · exact fun h => ⟨s, h, beq_self_eq_true s⟩
/-- Was it there, going by the first y? -/
def wasB (so : Nat → Bool) (sl : Nat → Nat) (s y : Nat) : Bool := (List.range y).any fun i => so i && (sl i == s)
theorem wasB_succ (so : Nat → Bool) (sl : Nat → Nat) (s y : Nat) : wasB so sl s (y + 1) = (wasB so sl s y || (so y && (sl y == s))) := by
  unfold wasB
  rw [List.range_succ, List.any_append]
  simp
theorem wasB_yes {s i : Nat} (hi : i < n) (h1 : so i = true) (h2 : sl i = s) : wasB so sl s n = true := by
  unfold wasB
  rw [List.any_eq_true]
  exact ⟨i, List.mem_range.2 hi, by rw [h1, h2]; simp⟩
theorem pl_eq (x s : Nat) : (Cnt.hS (sgN x) == Cnt.hS (sgN s) && (x : Int) == (s : Int)) = (x == s) := by
  by_cases e : x = s
  · subst e; simp
  · have h1 : (x == s) = false := by simpa using e
    have h2 : ((x : Int) == (s : Int)) = false := by simpa using (by omega : ¬ (x : Int) = (s : Int))
    rw [h1, h2, Bool.and_false]
theorem pl_eq' (x s : Nat) : (Cnt.hS (sgN x) == Cnt.hS (sgN s) && (x : Int) == (s : Int)) = (s == x) := by
  rw [pl_eq]
  by_cases e : x = s
  · subst e; rfl
  · have h1 : (x == s) = false := by simpa using e
    have h2 : (s == x) = false := by simpa using fun h => e h.symm
    rw [h1, h2]
theorem info_place : (Try.prog.info? 44).map (fun i => (i.zero, i.size, i.bytes)) = some (some (.agg #[.int .u64 0, .int .i64 0]), 2, 16) := by kernel_rfl
set_option maxRecDepth 100000 in
set_option maxHeartbeats 4000000 in
theorem found_any (v1 : Value) (z1 : Nat → Int) (L : List Nat) (R : Nat) (W : World) {c : Nat}
    (hP : Calls Try.prog 17 #[.pointer (some ⟨r, 0, none⟩)] W fun e w' => ∃ u, e = .returned u ∧ w'.ownsRow W.heap.size 44 2 u L.length (plCells L) ∧ Frm.Turn [] W w')
    (hH : HsAt W kh 4) (hb : BytesC W v1 z1 n) (hz : ∀ i, i < n → 0 ≤ z1 i ∧ z1 i < 256) (hsl : ∀ i, i < n → z1 i % 15 = (sl i : Int)) (hs : ∀ i, sl i < 15)
    (hA : ∀ i, i < n → W.cell? ⟨ab, i, none⟩ = some (.bool (al i))) (hS : ∀ i, i < n → W.cell? ⟨sb, i, none⟩ = some (.bool (so i))) (hn : n ≤ 12)
    (h1 : ∀ i, i < n → al i = true → sl i ∈ L) (h2 : ∀ s, s ∈ L → ∃ i, i < n ∧ so i = true ∧ sl i = s) (h3 : L.Pairwise (· < ·)) (h4 : R ≤ 16 + 16 * soN so n) (h5 : L.length ≤ 15) (h6 : ∀ s, s ∈ L → s < 15) :
    Calls Try.prog 10 #[.pointer (some ⟨r, 0, none⟩), .slice (some ⟨kh, 0, none⟩) 4 c, v1, .slice (some ⟨ab, 0, none⟩) n n, .slice (some ⟨sb, 0, none⟩) n n, .int .i64 R] W fun e w' => e = .returned (.bool true) ∧ Frm.Turn [] W w' := by
  obtain ⟨⟨ao1, vc1, rfl⟩, hb'⟩ := hb
  obtain ⟨N, HNN⟩ : ∃ N : Nat, Hid (N = L.length) := ⟨_, Lib.hid rfl⟩
  have HP : Hid (Calls Try.prog 17 #[.pointer (some ⟨r, 0, none⟩)] W fun e w' => ∃ ao ac, e = .returned (.slice ao N ac) ∧ (∀ y, y < N → ∃ g x, L[y]? = some x ∧ x < 15 ∧ ao = some ⟨g, 0, none⟩ ∧ w'.cell? ⟨g, y * 2, none⟩ = some (.int .u64 (Cnt.hS (sgN x))) ∧ w'.cell? ⟨g, y * 2 + 1, none⟩ = some (.int .i64 x)) ∧ Frm.Turn [] W w') := Lib.hid (by
    refine hP.mono ?_
    rintro e w' ⟨u, rfl, ho, hT2⟩
    obtain ⟨ao, ac, rfl⟩ := Frm.row_form ho
    refine ⟨ao, ac, by rw [HNN.out], fun y hy => ?_, hT2⟩
    rw [HNN.out] at hy
    have hg : L[y]? = some L[y] := List.getElem?_eq_getElem hy
    obtain ⟨c1, c2⟩ := plCells_get _ _ _ hg
    obtain ⟨g, ac2, e, hcell⟩ := row_cells ho (by omega)
    cases e
    exact ⟨g, L[y], hg, h6 _ (List.getElem_mem hy), rfl, hcell _ _ c1, hcell _ _ c2⟩)
  have HPL : Hid (∀ (s : Nat) (z : Int) (W' : World), Frm.Turn [] W W' → z % 15 = s → 0 ≤ z → z < 256 → s < 15 → Calls Try.prog 14 #[.slice (some ⟨kh, 0, none⟩) 4 c, .int .u8 z] W' fun e w' => e = .returned (.agg #[.int .u64 (Cnt.hS (sgN s)), .int .i64 s]) ∧ Frm.Turn [] W' w') := Lib.hid (fun s z W' hT e z0 z1 h15 =>
    place13 (n := 4) s z W' e z0 z1 (sg_lt4 ⟨s, h15⟩) (by omega) (fun g hg => hT.cell (hH g hg) (by simp)))
  have HB := Lib.hid hb'
  have HZ := Lib.hid (And.intro hz (And.intro hsl hs))
  have HA := Lib.hid hA
  have HS := Lib.hid hS
  have H1 := Lib.hid (And.intro h1 (And.intro h2 (And.intro h3 h4)))
  have HN12 := Lib.hid hn
  have HN15 : Hid (N ≤ 15) := Lib.hid (by rw [HNN.out]; exact h5)
  have hN15 := HN15.out
  clear hP hH hb' hz hsl hs hA hS h1 h2 h3 h4 h5 h6
  go_enter Try.func10, Try.ntmps10
  go_upto_region 3 with (go_at_call 17; (with_reducible refine (HP.out).mono ?_); rintro e w1 ⟨ao, ac, rfl, hcell, hT⟩; have HC := Lib.hid hcell; have HT1 := Lib.hid hT; clear hcell hT)
  clear HP
  have hst : Frm.Turn [] w1 w1 := Frm.Turn.refl [] w1
  go_wp2_with fail
  go_loopw [14, 29] (fun ni i wz => ∃ s : Nat, s ≤ n ∧ i = .int .i64 s ∧ ni = .int .i64 (soN so s) ∧ Frm.Turn [] w1 wz) (fun _ i _ => n - (intOf i).toNat)
  case atStart => exact ⟨0, Nat.zero_le _, rfl, rfl, hst⟩
  case round =>
    obtain ⟨s, hs, rfl, rfl, hT⟩ := hrel
    clear hst
    have HT := Lib.hid hT
    have hb0 := soN_le so s
    have hsn0 : (0 : Int) ≤ (soN so s : Int) := by omega
    have hsn1 : (soN so s : Int) ≤ 12 := by have := HN12.out; omega
    by_cases hlt : s < n
    · rcases HB.out with e | ⟨ga1, gc1, e, hcell1⟩
      · omega
      cases e
      have hWT := HT1.out.trans hT (by simp)
      have hc1 := hWT.cell (hcell1 s hlt) (by simp)
      have hca := hWT.cell (HA.out s hlt) (by simp)
      have hcs := hWT.cell (HS.out s hlt) (by simp)
      obtain ⟨z0, z1'⟩ := HZ.out.1 s hlt
      have hzs := HZ.out.2.1 s hlt
      have h15 := HZ.out.2.2 s
      have hs1 : (s : Int) < (n : Int) := by omega
      have hs0 : (0 : Int) ≤ (s : Int) := by omega
      have hs12 : (s : Int) ≤ 12 := by have := HN12.out; omega
      have HLT := Lib.hid hlt
      have hss := soN_succ so s
      have HSS := Lib.hid hss
      clear hlt hs hcell1 hb0 hWT hT hss
      generalize hzz : z1 s = zs at hc1 z0 z1' hzs
      clear hzz
      go_upto_if 37 with fail
      go_cut [14] (fun s14 W2 => s14 = .int .i64 (soN so (s + 1)) ∧ W2 = wr)
      case first =>
        cases hso : so s with
        | false =>
          rw [hso] at hcs
          go_wp2_with fail
          go_meet
          exact ⟨by rw [HSS.out, hso]; simp, rfl⟩
        | true =>
          rw [hso] at hcs
          go_wp2_with fail
          go_meet
          exact ⟨by rw [HSS.out, hso]; simp, rfl⟩
      case rest =>
        obtain ⟨rfl, rfl⟩ := hcut
        clear HSS hcs
        have hst : Frm.Turn [] w1 wc := HT.out
        go_wp2_with fail
        go_loopw [17, 42] (fun hv i wz => ∃ y : Nat, y ≤ N ∧ i = .int .i64 y ∧ hv = .bool (hasB L (sl s) y) ∧ Frm.Turn [] w1 wz) (fun _ i _ => N - (intOf i).toNat)
        case atStart => exact ⟨0, Nat.zero_le _, rfl, rfl, hst⟩
        case round =>
          obtain ⟨y, hy, rfl, rfl, hT⟩ := hrel
          clear hst hca hc1
          have HTY := Lib.hid hT
          by_cases hlt : y < N
          · obtain ⟨g, x, hx, hx15, rfl, p0, p1⟩ := HC.out y hlt
            have p0 := hT.cell p0 (by simp)
            have p1 := hT.cell p1 (by simp)
            have hsc := hasB_succ (s := sl s) hx
            have HSC := Lib.hid hsc
            have HLY := Lib.hid hlt
            have hy1 : (y : Int) < (N : Int) := by omega
            have hy0 : (0 : Int) ≤ (y : Int) := by omega
            have hy15 : (y : Int) ≤ 15 := by omega
            clear hlt hy hT hx hsc
            go_upto_region 12 with fail
            have hbx := World.alloc_heap_new wr (.cells #[.int .u64 (Cnt.hS (sgN x)), .int .i64 x] 44)
            have HWA : Hid (Frm.Turn [] w1 (wr.alloc (.cells #[.int .u64 (Cnt.hS (sgN x)), .int .i64 x] 44))) := Lib.hid (HTY.out.alloc _)
            have HPX : Hid (∀ W', Frm.Turn [] (wr.alloc (.cells #[.int .u64 (Cnt.hS (sgN x)), .int .i64 x] 44)) W' → W'.cell? ⟨wr.heap.size, 0, none⟩ = some (.int .u64 (Cnt.hS (sgN x))) ∧ W'.cell? ⟨wr.heap.size, 1, none⟩ = some (.int .i64 x)) := Lib.hid (fun W' hT2 => ⟨hT2.cell ((Frm.cell_row _ _ 0 _ _ _ hbx).trans rfl) (by simp), hT2.cell ((Frm.cell_row _ _ 1 _ _ _ hbx).trans rfl) (by simp)⟩)
            generalize World.alloc wr _ = wa at HWA HPX ⊢
            clear hbx p0 p1
            cases hhv : hasB L (sl s) y with
            | true =>
              refine wp_region_held_drew (S := fun W' => Frm.Turn [] wa W') (by kernel_rfl) ?_ (fun hHeld => ?_)
              · exact (Frm.Turn.refl [] wa).drew
              refine wpAnyH_take (i := 0) (v := ?_) rfl (by kernel_rfl) (by kernel_rfl) (by kernel_rfl) (fun _ _ _ h => h) (Or.inl ⟨by rfl, ?_⟩) (by assumption) ?_
              rotate_left
              · (intro w hSw; (try dsimp only at hSw); go_simp; try with_reducible rfl)
              try simp only [Act.put, List.getElem_toArray, List.getElem_cons_succ, List.getElem_cons_zero, List.setIfInBounds_toArray, List.set_cons_zero, List.set_cons_succ]
              refine wpAnyH_take (i := 1) (v := ?_) rfl (by kernel_rfl) (by kernel_rfl) (by kernel_rfl) (fun _ _ _ h => h) (Or.inl ⟨by rfl, ?_⟩) (by assumption) ?_
              rotate_left
              · (intro w hSw; (try dsimp only at hSw); go_simp; try with_reducible rfl)
              try simp only [Act.put, List.getElem_toArray, List.getElem_cons_succ, List.getElem_cons_zero, List.setIfInBounds_toArray, List.set_cons_zero, List.set_cons_succ]
              refine wpAnyH_take (i := 2) (v := undef) rfl (by kernel_rfl) (by kernel_rfl) (by kernel_rfl) (fun _ _ _ h => h) (Or.inr ⟨by rfl, rfl⟩) (by assumption) ?_
              try simp only [Act.put, List.getElem_toArray, List.getElem_cons_succ, List.getElem_cons_zero, List.setIfInBounds_toArray, List.set_cons_zero, List.set_cons_succ]
              refine wpAnyH_take (i := 3) (v := undef) rfl (by kernel_rfl) (by kernel_rfl) (by kernel_rfl) (fun _ _ _ h => h) (Or.inr ⟨by rfl, rfl⟩) (by assumption) ?_
              try simp only [Act.put, List.getElem_toArray, List.getElem_cons_succ, List.getElem_cons_zero, List.setIfInBounds_toArray, List.set_cons_zero, List.set_cons_succ]
              refine wpAnyH_take (i := 4) (v := undef) rfl (by kernel_rfl) (by kernel_rfl) (by kernel_rfl) (fun _ _ _ h => h) (Or.inr ⟨by rfl, rfl⟩) (by assumption) ?_
              try simp only [Act.put, List.getElem_toArray, List.getElem_cons_succ, List.getElem_cons_zero, List.setIfInBounds_toArray, List.set_cons_zero, List.set_cons_succ]
              refine wpAnyH_take (i := 5) (v := undef) rfl (by kernel_rfl) (by kernel_rfl) (by kernel_rfl) (fun _ _ _ h => h) (Or.inr ⟨by rfl, rfl⟩) (by assumption) ?_
              try simp only [Act.put, List.getElem_toArray, List.getElem_cons_succ, List.getElem_cons_zero, List.setIfInBounds_toArray, List.set_cons_zero, List.set_cons_succ]
              refine wpAnyH_take (i := 6) (v := undef) rfl (by kernel_rfl) (by kernel_rfl) (by kernel_rfl) (fun _ _ _ h => h) (Or.inr ⟨by rfl, rfl⟩) (by assumption) ?_
              try simp only [Act.put, List.getElem_toArray, List.getElem_cons_succ, List.getElem_cons_zero, List.setIfInBounds_toArray, List.set_cons_zero, List.set_cons_succ]
              refine wpAnyH_take (i := 7) (v := ?_) rfl (by kernel_rfl) (by kernel_rfl) (by kernel_rfl) (fun _ _ _ h => h) (Or.inl ⟨by rfl, ?_⟩) (by assumption) ?_
              rotate_left
              · (intro w hSw; (try dsimp only at hSw); go_simp; try with_reducible rfl)
              try simp only [Act.put, List.getElem_toArray, List.getElem_cons_succ, List.getElem_cons_zero, List.setIfInBounds_toArray, List.set_cons_zero, List.set_cons_succ]
              refine wpAnyH_take (i := 8) (v := ?_) rfl (by kernel_rfl) (by kernel_rfl) (by kernel_rfl) (fun _ _ _ h => h) (Or.inl ⟨by rfl, ?_⟩) (by assumption) ?_
              rotate_left
              · (intro w hSw; (try dsimp only at hSw); go_simp; try with_reducible rfl)
              try simp only [Act.put, List.getElem_toArray, List.getElem_cons_succ, List.getElem_cons_zero, List.setIfInBounds_toArray, List.set_cons_zero, List.set_cons_succ]
              refine wpAnyH_done (by kernel_rfl) ?_ _
              go_wp2_with fail
              refine ⟨⟨y + 1, by have := HLY.out; omega, by simp, by rw [HSC.out, hhv]; rfl, HWA.out.drew⟩, ?_⟩
              have := HLY.out
              simp [intOf]; omega
            | false =>
              have HPC := Lib.hid (fun W (hT2 : Frm.Turn [] wa W) => HPL.out (sl s) zs W (HT1.out.trans (HWA.out.trans hT2 (by simp)) (by simp)) hzs z0 z1' h15)
              obtain ⟨bb, hbb⟩ : ∃ bb, bb = (x == sl s) := ⟨_, rfl⟩
              have heq : ∀ w, (Op.equalIn 10000 44 (.agg #[.int .u64 (Cnt.hS (sgN x)), .int .i64 x]) (.agg #[.int .u64 (Cnt.hS (sgN (sl s))), .int .i64 (sl s)])).run Try.prog w = .ok bb w := fun w => equal2 w _ _ _ _ bb (by rw [hbb]; exact pl_eq x (sl s))
              have HBB := Lib.hid hbb
              clear hbb
              refine wp_region_held_drew (S := fun W' => Frm.Turn [] wa W') (by kernel_rfl) ?_ (fun hHeld => ?_)
              · exact (Frm.Turn.refl [] wa).drew
              refine wpAnyH_take (i := 0) (v := ?_) rfl (by kernel_rfl) (by kernel_rfl) (by kernel_rfl) (fun _ _ _ h => h) (Or.inl ⟨by rfl, ?_⟩) (by assumption) ?_
              rotate_left
              · (intro w hSw; (try dsimp only at hSw); go_simp; try with_reducible rfl)
              try simp only [Act.put, List.getElem_toArray, List.getElem_cons_succ, List.getElem_cons_zero, List.setIfInBounds_toArray, List.set_cons_zero, List.set_cons_succ]
              refine wpAnyH_take (i := 1) (v := ?_) rfl (by kernel_rfl) (by kernel_rfl) (by kernel_rfl) (fun _ _ _ h => h) (Or.inl ⟨by rfl, ?_⟩) (by assumption) ?_
              rotate_left
              · (intro w hSw; (try dsimp only at hSw); go_simp; try with_reducible rfl)
              try simp only [Act.put, List.getElem_toArray, List.getElem_cons_succ, List.getElem_cons_zero, List.setIfInBounds_toArray, List.set_cons_zero, List.set_cons_succ]
              refine wpAnyH_take (i := 2) (v := ?_) rfl (by kernel_rfl) (by kernel_rfl) (by kernel_rfl) (fun _ _ _ h => h) (Or.inl ⟨by rfl, ?_⟩) (by assumption) ?_
              rotate_left
              · (intro w hSw; (try dsimp only at hSw); obtain ⟨p0, p1⟩ := HPX.out w hSw; go_simp; try with_reducible rfl)
              try simp only [Act.put, List.getElem_toArray, List.getElem_cons_succ, List.getElem_cons_zero, List.setIfInBounds_toArray, List.set_cons_zero, List.set_cons_succ]
              refine wpAnyH_take (i := 3) (v := ?_) rfl (by kernel_rfl) (by kernel_rfl) (by kernel_rfl) (fun _ _ _ h => h) (Or.inl ⟨by rfl, ?_⟩) (by assumption) ?_
              rotate_left
              · (intro w hSw; (try dsimp only at hSw); go_simp; try with_reducible rfl)
              try simp only [Act.put, List.getElem_toArray, List.getElem_cons_succ, List.getElem_cons_zero, List.setIfInBounds_toArray, List.set_cons_zero, List.set_cons_succ]
              refine wpAnyH_take (i := 4) (v := ?_) rfl (by kernel_rfl) (by kernel_rfl) (by kernel_rfl) (fun _ _ _ h => h) (Or.inl ⟨by rfl, ?_⟩) (by assumption) ?_
              rotate_left
              · (intro w hSw; (try dsimp only at hSw); go_simp; try with_reducible rfl)
              try simp only [Act.put, List.getElem_toArray, List.getElem_cons_succ, List.getElem_cons_zero, List.setIfInBounds_toArray, List.set_cons_zero, List.set_cons_succ]
              refine wpAnyH_ready (rs := [5]) (by kernel_rfl) (by simp) ?_
              refine AllReadyH.cons rfl (fun K hK => ?_) AllReadyH.nil
              try simp only [List.getElem_toArray, List.getElem_cons_succ, List.getElem_cons_zero]
              go_simp
              (go_at_call 14; (with_reducible refine (HPC.out _ hHeld).mono ?_); rintro e wd ⟨rfl, hT2⟩)
              try go_wp2_with fail
              refine hK.out _ _ (hHeld.trans hT2 (by simp)) (fun hHeld1 => ?_)
              clear hK K
              try simp only [Act.put, List.getElem_toArray, List.getElem_cons_succ, List.getElem_cons_zero, List.setIfInBounds_toArray, List.set_cons_zero, List.set_cons_succ]
              refine wpAnyH_take (i := 6) (v := ?_) rfl (by kernel_rfl) (by kernel_rfl) (by kernel_rfl) (fun _ _ _ h => h) (Or.inl ⟨by rfl, ?_⟩) (by assumption) ?_
              rotate_left
              · (intro w hSw; (try dsimp only at hSw); go_simp; try with_reducible rfl)
              try simp only [Act.put, List.getElem_toArray, List.getElem_cons_succ, List.getElem_cons_zero, List.setIfInBounds_toArray, List.set_cons_zero, List.set_cons_succ]
              refine wpAnyH_take (i := 7) (v := ?_) rfl (by kernel_rfl) (by kernel_rfl) (by kernel_rfl) (fun _ _ _ h => h) (Or.inl ⟨by rfl, ?_⟩) (by assumption) ?_
              rotate_left
              · (intro w hSw; (try dsimp only at hSw); go_simp; try with_reducible rfl)
              try simp only [Act.put, List.getElem_toArray, List.getElem_cons_succ, List.getElem_cons_zero, List.setIfInBounds_toArray, List.set_cons_zero, List.set_cons_succ]
              refine wpAnyH_take (i := 8) (v := ?_) rfl (by kernel_rfl) (by kernel_rfl) (by kernel_rfl) (fun _ _ _ h => h) (Or.inl ⟨by rfl, ?_⟩) (by assumption) ?_
              rotate_left
              · (intro w hSw; (try dsimp only at hSw); go_simp; try with_reducible rfl)
              try simp only [Act.put, List.getElem_toArray, List.getElem_cons_succ, List.getElem_cons_zero, List.setIfInBounds_toArray, List.set_cons_zero, List.set_cons_succ]
              refine wpAnyH_done (by kernel_rfl) ?_ _
              go_wp2_with fail
              refine ⟨⟨y + 1, by have := HLY.out; omega, by simp, by rw [HSC.out, hhv, HBB.out]; rfl, HWA.out.trans hHeld1 (by simp)⟩, ?_⟩
              have := HLY.out
              simp [intOf]; omega
          · obtain rfl : y = N := by omega
            have hyy : ¬ (y : Int) < (y : Int) := by omega
            have hca := (HT1.out.trans hT (by simp)).cell (HA.out s HLT.out) (by simp)
            have HAL : Hid (al s = true → hasB L (sl s) y = true) := Lib.hid (fun h => by
              rw [HNN.out]; exact hasB_all.2 (H1.out.1 s HLT.out h))
            clear hlt hy hT
            cases hal : al s with
            | false =>
              rw [hal] at hca
              clear HAL hal
              go_wp2_with fail
              refine ⟨⟨s + 1, by have := HLT.out; omega, by simp, rfl, HTY.out⟩, ?_⟩
              have := HLT.out
              simp [intOf]; omega
            | true =>
              rw [hal] at hca
              have hh := HAL.out hal
              rw [hh]
              clear HAL hal hh
              go_wp2_with fail
              refine ⟨⟨s + 1, by have := HLT.out; omega, by simp, rfl, HTY.out⟩, ?_⟩
              have := HLT.out
              simp [intOf]; omega
    · obtain rfl : s = n := by omega
      have hlt' : ¬ (s : Int) < (s : Int) := by omega
      have hst2 : Frm.Turn [] w1 wr := hT
      clear hlt hs hT
      go_wp2_with fail
      go_loopw [66] (fun i wz => ∃ y : Nat, y ≤ N ∧ i = .int .i64 y ∧ Frm.Turn [] w1 wz) (fun i _ => N - (intOf i).toNat)
      case atStart => exact ⟨0, Nat.zero_le _, rfl, hst2⟩
      case round =>
        obtain ⟨y, hy, rfl, hT⟩ := hrel
        clear hst2
        have HTY := Lib.hid hT
        by_cases hlt : y < N
        · obtain ⟨g, x, hx, hx15, rfl, p0, p1⟩ := HC.out y hlt
          have p0 := hT.cell p0 (by simp)
          have p1 := hT.cell p1 (by simp)
          have HLY := Lib.hid hlt
          have HXL : Hid (L[y]? = some x) := Lib.hid hx
          have hy1 : (y : Int) < (N : Int) := by omega
          have hy0 : (0 : Int) ≤ (y : Int) := by omega
          have hy15 : (y : Int) ≤ 15 := by omega
          clear hlt hy hT hx
          go_upto_region 20 with fail
          have hbx := World.alloc_heap_new wr (.cells #[.int .u64 (Cnt.hS (sgN x)), .int .i64 x] 44)
          have HWA : Hid (Frm.Turn [] w1 (wr.alloc (.cells #[.int .u64 (Cnt.hS (sgN x)), .int .i64 x] 44))) := Lib.hid (HTY.out.alloc _)
          have HPX : Hid (∀ W', Frm.Turn [] (wr.alloc (.cells #[.int .u64 (Cnt.hS (sgN x)), .int .i64 x] 44)) W' → W'.cell? ⟨wr.heap.size, 0, none⟩ = some (.int .u64 (Cnt.hS (sgN x))) ∧ W'.cell? ⟨wr.heap.size, 1, none⟩ = some (.int .i64 x)) := Lib.hid (fun W' hT2 => ⟨hT2.cell ((Frm.cell_row _ _ 0 _ _ _ hbx).trans rfl) (by simp), hT2.cell ((Frm.cell_row _ _ 1 _ _ _ hbx).trans rfl) (by simp)⟩)
          have hsta : Frm.Turn [] (wr.alloc (.cells #[.int .u64 (Cnt.hS (sgN x)), .int .i64 x] 44)) (wr.alloc (.cells #[.int .u64 (Cnt.hS (sgN x)), .int .i64 x] 44)) := Frm.Turn.refl [] _
          generalize World.alloc wr _ = wa at HWA HPX hsta ⊢
          clear hbx p0 p1
          go_wp2_with fail
          go_loopw [22, 73] (fun hv i wz => ∃ j : Nat, j ≤ s ∧ i = .int .i64 j ∧ hv = .bool (wasB so sl x j) ∧ Frm.Turn [] wa wz) (fun _ i _ => s - (intOf i).toNat)
          case atStart => exact ⟨0, Nat.zero_le _, rfl, rfl, hsta⟩
          case round =>
            obtain ⟨j, hj, rfl, rfl, hT⟩ := hrel
            clear hsta
            have HTJ := Lib.hid hT
            by_cases hlt : j < s
            · rcases HB.out with e | ⟨ga1, gc1, e, hcell1⟩
              · omega
              cases e
              have hWT := (HT1.out.trans HWA.out (by simp)).trans hT (by simp)
              have hc1 := hWT.cell (hcell1 j hlt) (by simp)
              obtain ⟨z0, z1'⟩ := HZ.out.1 j hlt
              have hzs := HZ.out.2.1 j hlt
              have h15 := HZ.out.2.2 j
              have hj1 : (j : Int) < (s : Int) := by omega
              have hj0 : (0 : Int) ≤ (j : Int) := by omega
              have hj12 : (j : Int) ≤ 12 := by have := HN12.out; omega
              have HLJ := Lib.hid hlt
              have hsu := wasB_succ so sl x j
              have HSU := Lib.hid hsu
              have HSO : Hid (∀ W', Frm.Turn [] wr W' → W'.cell? ⟨sb, j, none⟩ = some (.bool (so j))) := Lib.hid (fun W' hT2 => (hWT.trans hT2 (by simp)).cell (HS.out j hlt) (by simp))
              clear hlt hj hcell1 hWT hT hsu
              generalize hzz : z1 j = zs at hc1 z0 z1' hzs
              clear hzz
              go_upto_region 24 with fail
              cases hhv : wasB so sl x j with
              | true =>
                refine wp_region_held_drew (S := fun W' => Frm.Turn [] wr W') (by kernel_rfl) ?_ (fun hHeld => ?_)
                · exact (Frm.Turn.refl [] wr).drew
                refine wpAnyH_take (i := 0) (v := ?_) rfl (by kernel_rfl) (by kernel_rfl) (by kernel_rfl) (fun _ _ _ h => h) (Or.inl ⟨by rfl, ?_⟩) (by assumption) ?_
                rotate_left
                · (intro w hSw; (try dsimp only at hSw); go_simp; try with_reducible rfl)
                try simp only [Act.put, List.getElem_toArray, List.getElem_cons_succ, List.getElem_cons_zero, List.setIfInBounds_toArray, List.set_cons_zero, List.set_cons_succ]
                refine wpAnyH_take (i := 1) (v := ?_) rfl (by kernel_rfl) (by kernel_rfl) (by kernel_rfl) (fun _ _ _ h => h) (Or.inl ⟨by rfl, ?_⟩) (by assumption) ?_
                rotate_left
                · (intro w hSw; (try dsimp only at hSw); go_simp; try with_reducible rfl)
                try simp only [Act.put, List.getElem_toArray, List.getElem_cons_succ, List.getElem_cons_zero, List.setIfInBounds_toArray, List.set_cons_zero, List.set_cons_succ]
                refine wpAnyH_take (i := 2) (v := undef) rfl (by kernel_rfl) (by kernel_rfl) (by kernel_rfl) (fun _ _ _ h => h) (Or.inr ⟨by rfl, rfl⟩) (by assumption) ?_
                try simp only [Act.put, List.getElem_toArray, List.getElem_cons_succ, List.getElem_cons_zero, List.setIfInBounds_toArray, List.set_cons_zero, List.set_cons_succ]
                refine wpAnyH_take (i := 3) (v := undef) rfl (by kernel_rfl) (by kernel_rfl) (by kernel_rfl) (fun _ _ _ h => h) (Or.inr ⟨by rfl, rfl⟩) (by assumption) ?_
                try simp only [Act.put, List.getElem_toArray, List.getElem_cons_succ, List.getElem_cons_zero, List.setIfInBounds_toArray, List.set_cons_zero, List.set_cons_succ]
                refine wpAnyH_take (i := 4) (v := undef) rfl (by kernel_rfl) (by kernel_rfl) (by kernel_rfl) (fun _ _ _ h => h) (Or.inr ⟨by rfl, rfl⟩) (by assumption) ?_
                try simp only [Act.put, List.getElem_toArray, List.getElem_cons_succ, List.getElem_cons_zero, List.setIfInBounds_toArray, List.set_cons_zero, List.set_cons_succ]
                refine wpAnyH_take (i := 5) (v := undef) rfl (by kernel_rfl) (by kernel_rfl) (by kernel_rfl) (fun _ _ _ h => h) (Or.inr ⟨by rfl, rfl⟩) (by assumption) ?_
                try simp only [Act.put, List.getElem_toArray, List.getElem_cons_succ, List.getElem_cons_zero, List.setIfInBounds_toArray, List.set_cons_zero, List.set_cons_succ]
                refine wpAnyH_take (i := 6) (v := undef) rfl (by kernel_rfl) (by kernel_rfl) (by kernel_rfl) (fun _ _ _ h => h) (Or.inr ⟨by rfl, rfl⟩) (by assumption) ?_
                try simp only [Act.put, List.getElem_toArray, List.getElem_cons_succ, List.getElem_cons_zero, List.setIfInBounds_toArray, List.set_cons_zero, List.set_cons_succ]
                refine wpAnyH_take (i := 7) (v := undef) rfl (by kernel_rfl) (by kernel_rfl) (by kernel_rfl) (fun _ _ _ h => h) (Or.inr ⟨by rfl, rfl⟩) (by assumption) ?_
                try simp only [Act.put, List.getElem_toArray, List.getElem_cons_succ, List.getElem_cons_zero, List.setIfInBounds_toArray, List.set_cons_zero, List.set_cons_succ]
                refine wpAnyH_take (i := 8) (v := undef) rfl (by kernel_rfl) (by kernel_rfl) (by kernel_rfl) (fun _ _ _ h => h) (Or.inr ⟨by rfl, rfl⟩) (by assumption) ?_
                try simp only [Act.put, List.getElem_toArray, List.getElem_cons_succ, List.getElem_cons_zero, List.setIfInBounds_toArray, List.set_cons_zero, List.set_cons_succ]
                refine wpAnyH_take (i := 9) (v := undef) rfl (by kernel_rfl) (by kernel_rfl) (by kernel_rfl) (fun _ _ _ h => h) (Or.inr ⟨by rfl, rfl⟩) (by assumption) ?_
                try simp only [Act.put, List.getElem_toArray, List.getElem_cons_succ, List.getElem_cons_zero, List.setIfInBounds_toArray, List.set_cons_zero, List.set_cons_succ]
                refine wpAnyH_take (i := 10) (v := undef) rfl (by kernel_rfl) (by kernel_rfl) (by kernel_rfl) (fun _ _ _ h => h) (Or.inr ⟨by rfl, rfl⟩) (by assumption) ?_
                try simp only [Act.put, List.getElem_toArray, List.getElem_cons_succ, List.getElem_cons_zero, List.setIfInBounds_toArray, List.set_cons_zero, List.set_cons_succ]
                refine wpAnyH_take (i := 11) (v := undef) rfl (by kernel_rfl) (by kernel_rfl) (by kernel_rfl) (fun _ _ _ h => h) (Or.inr ⟨by rfl, rfl⟩) (by assumption) ?_
                try simp only [Act.put, List.getElem_toArray, List.getElem_cons_succ, List.getElem_cons_zero, List.setIfInBounds_toArray, List.set_cons_zero, List.set_cons_succ]
                refine wpAnyH_take (i := 12) (v := undef) rfl (by kernel_rfl) (by kernel_rfl) (by kernel_rfl) (fun _ _ _ h => h) (Or.inr ⟨by rfl, rfl⟩) (by assumption) ?_
                try simp only [Act.put, List.getElem_toArray, List.getElem_cons_succ, List.getElem_cons_zero, List.setIfInBounds_toArray, List.set_cons_zero, List.set_cons_succ]
                refine wpAnyH_take (i := 13) (v := ?_) rfl (by kernel_rfl) (by kernel_rfl) (by kernel_rfl) (fun _ _ _ h => h) (Or.inl ⟨by rfl, ?_⟩) (by assumption) ?_
                rotate_left
                · (intro w hSw; (try dsimp only at hSw); go_simp; try with_reducible rfl)
                try simp only [Act.put, List.getElem_toArray, List.getElem_cons_succ, List.getElem_cons_zero, List.setIfInBounds_toArray, List.set_cons_zero, List.set_cons_succ]
                refine wpAnyH_take (i := 14) (v := ?_) rfl (by kernel_rfl) (by kernel_rfl) (by kernel_rfl) (fun _ _ _ h => h) (Or.inl ⟨by rfl, ?_⟩) (by assumption) ?_
                rotate_left
                · (intro w hSw; (try dsimp only at hSw); go_simp; try with_reducible rfl)
                try simp only [Act.put, List.getElem_toArray, List.getElem_cons_succ, List.getElem_cons_zero, List.setIfInBounds_toArray, List.set_cons_zero, List.set_cons_succ]
                refine wpAnyH_done (by kernel_rfl) ?_ _
                go_wp2_with fail
                refine ⟨⟨j + 1, by have := HLJ.out; omega, by simp, by rw [HSU.out, hhv]; rfl, HTJ.out.drew⟩, ?_⟩
                have := HLJ.out
                simp [intOf]; omega
              | false =>
                cases hso : so j with
                | false =>
                  refine wp_region_held_drew (S := fun W' => Frm.Turn [] wr W') (by kernel_rfl) ?_ (fun hHeld => ?_)
                  · exact (Frm.Turn.refl [] wr).drew
                  refine wpAnyH_take (i := 0) (v := ?_) rfl (by kernel_rfl) (by kernel_rfl) (by kernel_rfl) (fun _ _ _ h => h) (Or.inl ⟨by rfl, ?_⟩) (by assumption) ?_
                  rotate_left
                  · (intro w hSw; (try dsimp only at hSw); go_simp; try with_reducible rfl)
                  try simp only [Act.put, List.getElem_toArray, List.getElem_cons_succ, List.getElem_cons_zero, List.setIfInBounds_toArray, List.set_cons_zero, List.set_cons_succ]
                  refine wpAnyH_take (i := 1) (v := ?_) rfl (by kernel_rfl) (by kernel_rfl) (by kernel_rfl) (fun _ _ _ h => h) (Or.inl ⟨by rfl, ?_⟩) (by assumption) ?_
                  rotate_left
                  · (intro w hSw; (try dsimp only at hSw); go_simp; try with_reducible rfl)
                  try simp only [Act.put, List.getElem_toArray, List.getElem_cons_succ, List.getElem_cons_zero, List.setIfInBounds_toArray, List.set_cons_zero, List.set_cons_succ]
                  refine wpAnyH_take (i := 2) (v := ?_) rfl (by kernel_rfl) (by kernel_rfl) (by kernel_rfl) (fun _ _ _ h => h) (Or.inl ⟨by rfl, ?_⟩) (by assumption) ?_
                  rotate_left
                  · (intro w hSw; (try dsimp only at hSw); go_simp; try with_reducible rfl)
                  try simp only [Act.put, List.getElem_toArray, List.getElem_cons_succ, List.getElem_cons_zero, List.setIfInBounds_toArray, List.set_cons_zero, List.set_cons_succ]
                  refine wpAnyH_take (i := 3) (v := ?_) rfl (by kernel_rfl) (by kernel_rfl) (by kernel_rfl) (fun _ _ _ h => h) (Or.inl ⟨by rfl, ?_⟩) (by assumption) ?_
                  rotate_left
                  · (intro w hSw; (try dsimp only at hSw); go_simp; try with_reducible rfl)
                  try simp only [Act.put, List.getElem_toArray, List.getElem_cons_succ, List.getElem_cons_zero, List.setIfInBounds_toArray, List.set_cons_zero, List.set_cons_succ]
                  refine wpAnyH_take (i := 4) (v := ?_) rfl (by kernel_rfl) (by kernel_rfl) (by kernel_rfl) (fun _ _ _ h => h) (Or.inl ⟨by rfl, ?_⟩) (by assumption) ?_
                  rotate_left
                  · (intro w hSw; (try dsimp only at hSw); go_simp; try with_reducible rfl)
                  try simp only [Act.put, List.getElem_toArray, List.getElem_cons_succ, List.getElem_cons_zero, List.setIfInBounds_toArray, List.set_cons_zero, List.set_cons_succ]
                  refine wpAnyH_take (i := 5) (v := ?_) rfl (by kernel_rfl) (by kernel_rfl) (by kernel_rfl) (fun _ _ _ h => h) (Or.inl ⟨by rfl, ?_⟩) (by assumption) ?_
                  rotate_left
                  · (intro w hSw; (try dsimp only at hSw); have p0 := HSO.out w hSw; rw [hso] at p0; go_simp; try with_reducible rfl)
                  try simp only [Act.put, List.getElem_toArray, List.getElem_cons_succ, List.getElem_cons_zero, List.setIfInBounds_toArray, List.set_cons_zero, List.set_cons_succ]
                  refine wpAnyH_take (i := 6) (v := ?_) rfl (by kernel_rfl) (by kernel_rfl) (by kernel_rfl) (fun _ _ _ h => h) (Or.inl ⟨by rfl, ?_⟩) (by assumption) ?_
                  rotate_left
                  · (intro w hSw; (try dsimp only at hSw); go_simp; try with_reducible rfl)
                  try simp only [Act.put, List.getElem_toArray, List.getElem_cons_succ, List.getElem_cons_zero, List.setIfInBounds_toArray, List.set_cons_zero, List.set_cons_succ]
                  refine wpAnyH_take (i := 7) (v := undef) rfl (by kernel_rfl) (by kernel_rfl) (by kernel_rfl) (fun _ _ _ h => h) (Or.inr ⟨by rfl, rfl⟩) (by assumption) ?_
                  try simp only [Act.put, List.getElem_toArray, List.getElem_cons_succ, List.getElem_cons_zero, List.setIfInBounds_toArray, List.set_cons_zero, List.set_cons_succ]
                  refine wpAnyH_take (i := 8) (v := undef) rfl (by kernel_rfl) (by kernel_rfl) (by kernel_rfl) (fun _ _ _ h => h) (Or.inr ⟨by rfl, rfl⟩) (by assumption) ?_
                  try simp only [Act.put, List.getElem_toArray, List.getElem_cons_succ, List.getElem_cons_zero, List.setIfInBounds_toArray, List.set_cons_zero, List.set_cons_succ]
                  refine wpAnyH_take (i := 9) (v := undef) rfl (by kernel_rfl) (by kernel_rfl) (by kernel_rfl) (fun _ _ _ h => h) (Or.inr ⟨by rfl, rfl⟩) (by assumption) ?_
                  try simp only [Act.put, List.getElem_toArray, List.getElem_cons_succ, List.getElem_cons_zero, List.setIfInBounds_toArray, List.set_cons_zero, List.set_cons_succ]
                  refine wpAnyH_take (i := 10) (v := undef) rfl (by kernel_rfl) (by kernel_rfl) (by kernel_rfl) (fun _ _ _ h => h) (Or.inr ⟨by rfl, rfl⟩) (by assumption) ?_
                  try simp only [Act.put, List.getElem_toArray, List.getElem_cons_succ, List.getElem_cons_zero, List.setIfInBounds_toArray, List.set_cons_zero, List.set_cons_succ]
                  refine wpAnyH_take (i := 11) (v := undef) rfl (by kernel_rfl) (by kernel_rfl) (by kernel_rfl) (fun _ _ _ h => h) (Or.inr ⟨by rfl, rfl⟩) (by assumption) ?_
                  try simp only [Act.put, List.getElem_toArray, List.getElem_cons_succ, List.getElem_cons_zero, List.setIfInBounds_toArray, List.set_cons_zero, List.set_cons_succ]
                  refine wpAnyH_take (i := 12) (v := ?_) rfl (by kernel_rfl) (by kernel_rfl) (by kernel_rfl) (fun _ _ _ h => h) (Or.inl ⟨by rfl, ?_⟩) (by assumption) ?_
                  rotate_left
                  · (intro w hSw; (try dsimp only at hSw); go_simp; try with_reducible rfl)
                  try simp only [Act.put, List.getElem_toArray, List.getElem_cons_succ, List.getElem_cons_zero, List.setIfInBounds_toArray, List.set_cons_zero, List.set_cons_succ]
                  refine wpAnyH_take (i := 13) (v := ?_) rfl (by kernel_rfl) (by kernel_rfl) (by kernel_rfl) (fun _ _ _ h => h) (Or.inl ⟨by rfl, ?_⟩) (by assumption) ?_
                  rotate_left
                  · (intro w hSw; (try dsimp only at hSw); go_simp; try with_reducible rfl)
                  try simp only [Act.put, List.getElem_toArray, List.getElem_cons_succ, List.getElem_cons_zero, List.setIfInBounds_toArray, List.set_cons_zero, List.set_cons_succ]
                  refine wpAnyH_take (i := 14) (v := ?_) rfl (by kernel_rfl) (by kernel_rfl) (by kernel_rfl) (fun _ _ _ h => h) (Or.inl ⟨by rfl, ?_⟩) (by assumption) ?_
                  rotate_left
                  · (intro w hSw; (try dsimp only at hSw); go_simp; try with_reducible rfl)
                  try simp only [Act.put, List.getElem_toArray, List.getElem_cons_succ, List.getElem_cons_zero, List.setIfInBounds_toArray, List.set_cons_zero, List.set_cons_succ]
                  refine wpAnyH_done (by kernel_rfl) ?_ _
                  go_wp2_with fail
                  refine ⟨⟨j + 1, by have := HLJ.out; omega, by simp, by rw [HSU.out, hhv, hso]; rfl, HTJ.out.drew⟩, ?_⟩
                  have := HLJ.out
                  simp [intOf]; omega
                | true =>
                  have HPC := Lib.hid (fun W (hT2 : Frm.Turn [] wr W) => HPL.out (sl j) zs W (HT1.out.trans (HWA.out.trans (HTJ.out.trans hT2 (by simp)) (by simp)) (by simp)) hzs z0 z1' h15)
                  obtain ⟨bb, hbb⟩ : ∃ bb, bb = (sl j == x) := ⟨_, rfl⟩
                  have heq : ∀ w, (Op.equalIn 10000 44 (.agg #[.int .u64 (Cnt.hS (sgN x)), .int .i64 x]) (.agg #[.int .u64 (Cnt.hS (sgN (sl j))), .int .i64 (sl j)])).run Try.prog w = .ok bb w := fun w => equal2 w _ _ _ _ bb (by rw [hbb]; exact pl_eq' x (sl j))
                  have HBB := Lib.hid hbb
                  clear hbb
                  refine wp_region_held_drew (S := fun W' => Frm.Turn [] wr W') (by kernel_rfl) ?_ (fun hHeld => ?_)
                  · exact (Frm.Turn.refl [] wr).drew
                  refine wpAnyH_take (i := 0) (v := ?_) rfl (by kernel_rfl) (by kernel_rfl) (by kernel_rfl) (fun _ _ _ h => h) (Or.inl ⟨by rfl, ?_⟩) (by assumption) ?_
                  rotate_left
                  · (intro w hSw; (try dsimp only at hSw); go_simp; try with_reducible rfl)
                  try simp only [Act.put, List.getElem_toArray, List.getElem_cons_succ, List.getElem_cons_zero, List.setIfInBounds_toArray, List.set_cons_zero, List.set_cons_succ]
                  refine wpAnyH_take (i := 1) (v := ?_) rfl (by kernel_rfl) (by kernel_rfl) (by kernel_rfl) (fun _ _ _ h => h) (Or.inl ⟨by rfl, ?_⟩) (by assumption) ?_
                  rotate_left
                  · (intro w hSw; (try dsimp only at hSw); go_simp; try with_reducible rfl)
                  try simp only [Act.put, List.getElem_toArray, List.getElem_cons_succ, List.getElem_cons_zero, List.setIfInBounds_toArray, List.set_cons_zero, List.set_cons_succ]
                  refine wpAnyH_take (i := 2) (v := ?_) rfl (by kernel_rfl) (by kernel_rfl) (by kernel_rfl) (fun _ _ _ h => h) (Or.inl ⟨by rfl, ?_⟩) (by assumption) ?_
                  rotate_left
                  · (intro w hSw; (try dsimp only at hSw); go_simp; try with_reducible rfl)
                  try simp only [Act.put, List.getElem_toArray, List.getElem_cons_succ, List.getElem_cons_zero, List.setIfInBounds_toArray, List.set_cons_zero, List.set_cons_succ]
                  refine wpAnyH_take (i := 3) (v := ?_) rfl (by kernel_rfl) (by kernel_rfl) (by kernel_rfl) (fun _ _ _ h => h) (Or.inl ⟨by rfl, ?_⟩) (by assumption) ?_
                  rotate_left
                  · (intro w hSw; (try dsimp only at hSw); go_simp; try with_reducible rfl)
                  try simp only [Act.put, List.getElem_toArray, List.getElem_cons_succ, List.getElem_cons_zero, List.setIfInBounds_toArray, List.set_cons_zero, List.set_cons_succ]
                  refine wpAnyH_take (i := 4) (v := ?_) rfl (by kernel_rfl) (by kernel_rfl) (by kernel_rfl) (fun _ _ _ h => h) (Or.inl ⟨by rfl, ?_⟩) (by assumption) ?_
                  rotate_left
                  · (intro w hSw; (try dsimp only at hSw); go_simp; try with_reducible rfl)
                  try simp only [Act.put, List.getElem_toArray, List.getElem_cons_succ, List.getElem_cons_zero, List.setIfInBounds_toArray, List.set_cons_zero, List.set_cons_succ]
                  refine wpAnyH_take (i := 5) (v := ?_) rfl (by kernel_rfl) (by kernel_rfl) (by kernel_rfl) (fun _ _ _ h => h) (Or.inl ⟨by rfl, ?_⟩) (by assumption) ?_
                  rotate_left
                  · (intro w hSw; (try dsimp only at hSw); have p0 := HSO.out w hSw; rw [hso] at p0; go_simp; try with_reducible rfl)
                  try simp only [Act.put, List.getElem_toArray, List.getElem_cons_succ, List.getElem_cons_zero, List.setIfInBounds_toArray, List.set_cons_zero, List.set_cons_succ]
                  refine wpAnyH_take (i := 6) (v := ?_) rfl (by kernel_rfl) (by kernel_rfl) (by kernel_rfl) (fun _ _ _ h => h) (Or.inl ⟨by rfl, ?_⟩) (by assumption) ?_
                  rotate_left
                  · (intro w hSw; (try dsimp only at hSw); go_simp; try with_reducible rfl)
                  try simp only [Act.put, List.getElem_toArray, List.getElem_cons_succ, List.getElem_cons_zero, List.setIfInBounds_toArray, List.set_cons_zero, List.set_cons_succ]
                  refine wpAnyH_take (i := 7) (v := ?_) rfl (by kernel_rfl) (by kernel_rfl) (by kernel_rfl) (fun _ _ _ h => h) (Or.inl ⟨by rfl, ?_⟩) (by assumption) ?_
                  rotate_left
                  · (intro w hSw; (try dsimp only at hSw); obtain ⟨p0, p1⟩ := HPX.out w (HTJ.out.trans hSw (by simp)); go_simp; try with_reducible rfl)
                  try simp only [Act.put, List.getElem_toArray, List.getElem_cons_succ, List.getElem_cons_zero, List.setIfInBounds_toArray, List.set_cons_zero, List.set_cons_succ]
                  refine wpAnyH_take (i := 8) (v := ?_) rfl (by kernel_rfl) (by kernel_rfl) (by kernel_rfl) (fun _ _ _ h => h) (Or.inl ⟨by rfl, ?_⟩) (by assumption) ?_
                  rotate_left
                  · (intro w hSw; (try dsimp only at hSw); go_simp; try with_reducible rfl)
                  try simp only [Act.put, List.getElem_toArray, List.getElem_cons_succ, List.getElem_cons_zero, List.setIfInBounds_toArray, List.set_cons_zero, List.set_cons_succ]
                  refine wpAnyH_take (i := 9) (v := ?_) rfl (by kernel_rfl) (by kernel_rfl) (by kernel_rfl) (fun _ _ _ h => h) (Or.inl ⟨by rfl, ?_⟩) (by assumption) ?_
                  rotate_left
                  · (intro w hSw; (try dsimp only at hSw); go_simp; try with_reducible rfl)
                  try simp only [Act.put, List.getElem_toArray, List.getElem_cons_succ, List.getElem_cons_zero, List.setIfInBounds_toArray, List.set_cons_zero, List.set_cons_succ]
                  refine wpAnyH_ready (rs := [10]) (by kernel_rfl) (by simp) ?_
                  refine AllReadyH.cons rfl (fun K hK => ?_) AllReadyH.nil
                  try simp only [List.getElem_toArray, List.getElem_cons_succ, List.getElem_cons_zero]
                  go_simp
                  (go_at_call 14; (with_reducible refine (HPC.out _ hHeld).mono ?_); rintro e wd ⟨rfl, hT2⟩)
                  try go_wp2_with fail
                  refine hK.out _ _ (hHeld.trans hT2 (by simp)) (fun hHeld1 => ?_)
                  clear hK K
                  try simp only [Act.put, List.getElem_toArray, List.getElem_cons_succ, List.getElem_cons_zero, List.setIfInBounds_toArray, List.set_cons_zero, List.set_cons_succ]
                  refine wpAnyH_take (i := 11) (v := ?_) rfl (by kernel_rfl) (by kernel_rfl) (by kernel_rfl) (fun _ _ _ h => h) (Or.inl ⟨by rfl, ?_⟩) (by assumption) ?_
                  rotate_left
                  · (intro w hSw; (try dsimp only at hSw); go_simp; try with_reducible rfl)
                  try simp only [Act.put, List.getElem_toArray, List.getElem_cons_succ, List.getElem_cons_zero, List.setIfInBounds_toArray, List.set_cons_zero, List.set_cons_succ]
                  refine wpAnyH_take (i := 12) (v := ?_) rfl (by kernel_rfl) (by kernel_rfl) (by kernel_rfl) (fun _ _ _ h => h) (Or.inl ⟨by rfl, ?_⟩) (by assumption) ?_
                  rotate_left
                  · (intro w hSw; (try dsimp only at hSw); go_simp; try with_reducible rfl)
                  try simp only [Act.put, List.getElem_toArray, List.getElem_cons_succ, List.getElem_cons_zero, List.setIfInBounds_toArray, List.set_cons_zero, List.set_cons_succ]
                  refine wpAnyH_take (i := 13) (v := ?_) rfl (by kernel_rfl) (by kernel_rfl) (by kernel_rfl) (fun _ _ _ h => h) (Or.inl ⟨by rfl, ?_⟩) (by assumption) ?_
                  rotate_left
                  · (intro w hSw; (try dsimp only at hSw); go_simp; try with_reducible rfl)
                  try simp only [Act.put, List.getElem_toArray, List.getElem_cons_succ, List.getElem_cons_zero, List.setIfInBounds_toArray, List.set_cons_zero, List.set_cons_succ]
                  refine wpAnyH_take (i := 14) (v := ?_) rfl (by kernel_rfl) (by kernel_rfl) (by kernel_rfl) (fun _ _ _ h => h) (Or.inl ⟨by rfl, ?_⟩) (by assumption) ?_
                  rotate_left
                  · (intro w hSw; (try dsimp only at hSw); go_simp; try with_reducible rfl)
                  try simp only [Act.put, List.getElem_toArray, List.getElem_cons_succ, List.getElem_cons_zero, List.setIfInBounds_toArray, List.set_cons_zero, List.set_cons_succ]
                  refine wpAnyH_done (by kernel_rfl) ?_ _
                  go_wp2_with fail
                  refine ⟨⟨j + 1, by have := HLJ.out; omega, by simp, by rw [HSU.out, hhv, hso, HBB.out]; rfl, HTJ.out.trans hHeld1 (by simp)⟩, ?_⟩
                  have := HLJ.out
                  simp [intOf]; omega
            · obtain rfl : j = s := by omega
              have hjj : ¬ (j : Int) < (j : Int) := by omega
              have hwas : wasB so sl x j = true := by
                obtain ⟨i, i1, i2, i3⟩ := H1.out.2.1 x (List.mem_of_getElem? HXL.out)
                exact wasB_yes i1 i2 i3
              rw [hwas]
              clear hlt hj hT
              go_upto_region 26 with fail
              by_cases hy0' : y = 0
              · subst hy0'
                have e0 : ((0 : Nat) : Int) = 0 := rfl
                rw [e0]
                refine wp_region_held_drew (S := fun W' => Frm.Turn [] wr W') (by kernel_rfl) ?_ (fun hHeld => ?_)
                · exact (Frm.Turn.refl [] wr).drew
                refine wpAnyH_take (i := 0) (v := ?_) rfl (by kernel_rfl) (by kernel_rfl) (by kernel_rfl) (fun _ _ _ h => h) (Or.inl ⟨by rfl, ?_⟩) (by assumption) ?_
                rotate_left
                · (intro w hSw; (try dsimp only at hSw); go_simp; try with_reducible rfl)
                try simp only [Act.put, List.getElem_toArray, List.getElem_cons_succ, List.getElem_cons_zero, List.setIfInBounds_toArray, List.set_cons_zero, List.set_cons_succ]
                refine wpAnyH_take (i := 1) (v := ?_) rfl (by kernel_rfl) (by kernel_rfl) (by kernel_rfl) (fun _ _ _ h => h) (Or.inl ⟨by rfl, ?_⟩) (by assumption) ?_
                rotate_left
                · (intro w hSw; (try dsimp only at hSw); go_simp; try with_reducible rfl)
                try simp only [Act.put, List.getElem_toArray, List.getElem_cons_succ, List.getElem_cons_zero, List.setIfInBounds_toArray, List.set_cons_zero, List.set_cons_succ]
                refine wpAnyH_take (i := 2) (v := ?_) rfl (by kernel_rfl) (by kernel_rfl) (by kernel_rfl) (fun _ _ _ h => h) (Or.inl ⟨by rfl, ?_⟩) (by assumption) ?_
                rotate_left
                · (intro w hSw; (try dsimp only at hSw); go_simp; try with_reducible rfl)
                try simp only [Act.put, List.getElem_toArray, List.getElem_cons_succ, List.getElem_cons_zero, List.setIfInBounds_toArray, List.set_cons_zero, List.set_cons_succ]
                refine wpAnyH_take (i := 3) (v := ?_) rfl (by kernel_rfl) (by kernel_rfl) (by kernel_rfl) (fun _ _ _ h => h) (Or.inl ⟨by rfl, ?_⟩) (by assumption) ?_
                rotate_left
                · (intro w hSw; (try dsimp only at hSw); go_simp; try with_reducible rfl)
                try simp only [Act.put, List.getElem_toArray, List.getElem_cons_succ, List.getElem_cons_zero, List.setIfInBounds_toArray, List.set_cons_zero, List.set_cons_succ]
                refine wpAnyH_take (i := 4) (v := ?_) rfl (by kernel_rfl) (by kernel_rfl) (by kernel_rfl) (fun _ _ _ h => h) (Or.inl ⟨by rfl, ?_⟩) (by assumption) ?_
                rotate_left
                · (intro w hSw; (try dsimp only at hSw); go_simp; try with_reducible rfl)
                try simp only [Act.put, List.getElem_toArray, List.getElem_cons_succ, List.getElem_cons_zero, List.setIfInBounds_toArray, List.set_cons_zero, List.set_cons_succ]
                refine wpAnyH_take (i := 5) (v := ?_) rfl (by kernel_rfl) (by kernel_rfl) (by kernel_rfl) (fun _ _ _ h => h) (Or.inl ⟨by rfl, ?_⟩) (by assumption) ?_
                rotate_left
                · (intro w hSw; (try dsimp only at hSw); go_simp; try with_reducible rfl)
                try simp only [Act.put, List.getElem_toArray, List.getElem_cons_succ, List.getElem_cons_zero, List.setIfInBounds_toArray, List.set_cons_zero, List.set_cons_succ]
                refine wpAnyH_take (i := 6) (v := undef) rfl (by kernel_rfl) (by kernel_rfl) (by kernel_rfl) (fun _ _ _ h => h) (Or.inr ⟨by rfl, rfl⟩) (by assumption) ?_
                try simp only [Act.put, List.getElem_toArray, List.getElem_cons_succ, List.getElem_cons_zero, List.setIfInBounds_toArray, List.set_cons_zero, List.set_cons_succ]
                refine wpAnyH_take (i := 7) (v := undef) rfl (by kernel_rfl) (by kernel_rfl) (by kernel_rfl) (fun _ _ _ h => h) (Or.inr ⟨by rfl, rfl⟩) (by assumption) ?_
                try simp only [Act.put, List.getElem_toArray, List.getElem_cons_succ, List.getElem_cons_zero, List.setIfInBounds_toArray, List.set_cons_zero, List.set_cons_succ]
                refine wpAnyH_take (i := 8) (v := undef) rfl (by kernel_rfl) (by kernel_rfl) (by kernel_rfl) (fun _ _ _ h => h) (Or.inr ⟨by rfl, rfl⟩) (by assumption) ?_
                try simp only [Act.put, List.getElem_toArray, List.getElem_cons_succ, List.getElem_cons_zero, List.setIfInBounds_toArray, List.set_cons_zero, List.set_cons_succ]
                refine wpAnyH_take (i := 9) (v := undef) rfl (by kernel_rfl) (by kernel_rfl) (by kernel_rfl) (fun _ _ _ h => h) (Or.inr ⟨by rfl, rfl⟩) (by assumption) ?_
                try simp only [Act.put, List.getElem_toArray, List.getElem_cons_succ, List.getElem_cons_zero, List.setIfInBounds_toArray, List.set_cons_zero, List.set_cons_succ]
                refine wpAnyH_take (i := 10) (v := undef) rfl (by kernel_rfl) (by kernel_rfl) (by kernel_rfl) (fun _ _ _ h => h) (Or.inr ⟨by rfl, rfl⟩) (by assumption) ?_
                try simp only [Act.put, List.getElem_toArray, List.getElem_cons_succ, List.getElem_cons_zero, List.setIfInBounds_toArray, List.set_cons_zero, List.set_cons_succ]
                refine wpAnyH_take (i := 11) (v := undef) rfl (by kernel_rfl) (by kernel_rfl) (by kernel_rfl) (fun _ _ _ h => h) (Or.inr ⟨by rfl, rfl⟩) (by assumption) ?_
                try simp only [Act.put, List.getElem_toArray, List.getElem_cons_succ, List.getElem_cons_zero, List.setIfInBounds_toArray, List.set_cons_zero, List.set_cons_succ]
                refine wpAnyH_take (i := 12) (v := undef) rfl (by kernel_rfl) (by kernel_rfl) (by kernel_rfl) (fun _ _ _ h => h) (Or.inr ⟨by rfl, rfl⟩) (by assumption) ?_
                try simp only [Act.put, List.getElem_toArray, List.getElem_cons_succ, List.getElem_cons_zero, List.setIfInBounds_toArray, List.set_cons_zero, List.set_cons_succ]
                refine wpAnyH_take (i := 13) (v := undef) rfl (by kernel_rfl) (by kernel_rfl) (by kernel_rfl) (fun _ _ _ h => h) (Or.inr ⟨by rfl, rfl⟩) (by assumption) ?_
                try simp only [Act.put, List.getElem_toArray, List.getElem_cons_succ, List.getElem_cons_zero, List.setIfInBounds_toArray, List.set_cons_zero, List.set_cons_succ]
                refine wpAnyH_take (i := 14) (v := undef) rfl (by kernel_rfl) (by kernel_rfl) (by kernel_rfl) (fun _ _ _ h => h) (Or.inr ⟨by rfl, rfl⟩) (by assumption) ?_
                try simp only [Act.put, List.getElem_toArray, List.getElem_cons_succ, List.getElem_cons_zero, List.setIfInBounds_toArray, List.set_cons_zero, List.set_cons_succ]
                refine wpAnyH_take (i := 15) (v := ?_) rfl (by kernel_rfl) (by kernel_rfl) (by kernel_rfl) (fun _ _ _ h => h) (Or.inl ⟨by rfl, ?_⟩) (by assumption) ?_
                rotate_left
                · (intro w hSw; (try dsimp only at hSw); go_simp; try with_reducible rfl)
                try simp only [Act.put, List.getElem_toArray, List.getElem_cons_succ, List.getElem_cons_zero, List.setIfInBounds_toArray, List.set_cons_zero, List.set_cons_succ]
                refine wpAnyH_take (i := 16) (v := ?_) rfl (by kernel_rfl) (by kernel_rfl) (by kernel_rfl) (fun _ _ _ h => h) (Or.inl ⟨by rfl, ?_⟩) (by assumption) ?_
                rotate_left
                · (intro w hSw; (try dsimp only at hSw); go_simp; try with_reducible rfl)
                try simp only [Act.put, List.getElem_toArray, List.getElem_cons_succ, List.getElem_cons_zero, List.setIfInBounds_toArray, List.set_cons_zero, List.set_cons_succ]
                refine wpAnyH_done (by kernel_rfl) ?_ _
                go_wp2_with fail
                refine ⟨⟨1, by have := HLY.out; omega, by simp, HWA.out.trans HTJ.out.drew (by simp)⟩, ?_⟩
                have := HLY.out
                simp [intOf]; omega
              · obtain ⟨y', rfl⟩ : ∃ y', y = y' + 1 := ⟨y - 1, by omega⟩
                obtain ⟨g2, x2, hx2, hx152, hge, q0, q1⟩ := HC.out y' (by have := HLY.out; omega)
                cases hge
                have hlt2 : x2 < x := by
                  have := H1.out.2.2.1
                  have h1 := List.pairwise_iff_getElem.1 this y' (y' + 1) (by have := HLY.out; rw [HNN.out] at this; omega) (by have := HLY.out; rw [HNN.out] at this; omega) (by omega)
                  have e1 := List.getElem?_eq_some_iff.1 hx2
                  have e2 := List.getElem?_eq_some_iff.1 HXL.out
                  obtain ⟨_, e1⟩ := e1
                  obtain ⟨_, e2⟩ := e2
                  rw [e1, e2] at h1
                  exact h1
                have hle : ¬ (x : Int) ≤ (x2 : Int) := by omega
                obtain ⟨yi, hyi⟩ : ∃ yi : Int, yi = ((y' + 1 : Nat) : Int) := ⟨_, rfl⟩
                have hgt : (0 : Int) < yi := by omega
                have hsub : yi - 1 = (y' : Int) := by omega
                rw [← hyi] at hy1 hy0 hy15
                rw [← hyi]
                have HYI := Lib.hid hyi
                have hy'0 : (0 : Int) ≤ (y' : Int) := by omega
                have hy'1 : (y' : Int) < (N : Int) := by have := HLY.out; omega
                have hw' : IntKind.i64.wrap (y' : Int) = (y' : Int) := by rw [IntKind.wrap_i64]; omega
                have HQ : Hid (∀ W', Frm.Turn [] wr W' → W'.cell? ⟨g, y' * 2 + 1, none⟩ = some (.int .i64 x2)) := Lib.hid (fun W' hT2 => ((HWA.out.trans HTJ.out (by simp)).trans hT2 (by simp)).cell q1 (by simp))
                clear q0 q1 hx2 hlt2 hyi hy0'
                refine wp_region_held_drew (S := fun W' => Frm.Turn [] wr W') (by kernel_rfl) ?_ (fun hHeld => ?_)
                · exact (Frm.Turn.refl [] wr).drew
                refine wpAnyH_take (i := 0) (v := ?_) rfl (by kernel_rfl) (by kernel_rfl) (by kernel_rfl) (fun _ _ _ h => h) (Or.inl ⟨by rfl, ?_⟩) (by assumption) ?_
                rotate_left
                · (intro w hSw; (try dsimp only at hSw); go_simp; try with_reducible rfl)
                try simp only [Act.put, List.getElem_toArray, List.getElem_cons_succ, List.getElem_cons_zero, List.setIfInBounds_toArray, List.set_cons_zero, List.set_cons_succ]
                refine wpAnyH_take (i := 1) (v := ?_) rfl (by kernel_rfl) (by kernel_rfl) (by kernel_rfl) (fun _ _ _ h => h) (Or.inl ⟨by rfl, ?_⟩) (by assumption) ?_
                rotate_left
                · (intro w hSw; (try dsimp only at hSw); go_simp; try with_reducible rfl)
                try simp only [Act.put, List.getElem_toArray, List.getElem_cons_succ, List.getElem_cons_zero, List.setIfInBounds_toArray, List.set_cons_zero, List.set_cons_succ]
                refine wpAnyH_take (i := 2) (v := ?_) rfl (by kernel_rfl) (by kernel_rfl) (by kernel_rfl) (fun _ _ _ h => h) (Or.inl ⟨by rfl, ?_⟩) (by assumption) ?_
                rotate_left
                · (intro w hSw; (try dsimp only at hSw); go_simp; try with_reducible rfl)
                try simp only [Act.put, List.getElem_toArray, List.getElem_cons_succ, List.getElem_cons_zero, List.setIfInBounds_toArray, List.set_cons_zero, List.set_cons_succ]
                refine wpAnyH_take (i := 3) (v := ?_) rfl (by kernel_rfl) (by kernel_rfl) (by kernel_rfl) (fun _ _ _ h => h) (Or.inl ⟨by rfl, ?_⟩) (by assumption) ?_
                rotate_left
                · (intro w hSw; (try dsimp only at hSw); go_simp; try with_reducible rfl)
                try simp only [Act.put, List.getElem_toArray, List.getElem_cons_succ, List.getElem_cons_zero, List.setIfInBounds_toArray, List.set_cons_zero, List.set_cons_succ]
                refine wpAnyH_take (i := 4) (v := ?_) rfl (by kernel_rfl) (by kernel_rfl) (by kernel_rfl) (fun _ _ _ h => h) (Or.inl ⟨by rfl, ?_⟩) (by assumption) ?_
                rotate_left
                · (intro w hSw; (try dsimp only at hSw); go_simp; try with_reducible rfl)
                try simp only [Act.put, List.getElem_toArray, List.getElem_cons_succ, List.getElem_cons_zero, List.setIfInBounds_toArray, List.set_cons_zero, List.set_cons_succ]
                refine wpAnyH_take (i := 5) (v := ?_) rfl (by kernel_rfl) (by kernel_rfl) (by kernel_rfl) (fun _ _ _ h => h) (Or.inl ⟨by rfl, ?_⟩) (by assumption) ?_
                rotate_left
                · (intro w hSw; (try dsimp only at hSw); go_simp; try with_reducible rfl)
                try simp only [Act.put, List.getElem_toArray, List.getElem_cons_succ, List.getElem_cons_zero, List.setIfInBounds_toArray, List.set_cons_zero, List.set_cons_succ]
                refine wpAnyH_take (i := 6) (v := ?_) rfl (by kernel_rfl) (by kernel_rfl) (by kernel_rfl) (fun _ _ _ h => h) (Or.inl ⟨by rfl, ?_⟩) (by assumption) ?_
                rotate_left
                · (intro w hSw; (try dsimp only at hSw); go_simp; try with_reducible rfl)
                try simp only [Act.put, List.getElem_toArray, List.getElem_cons_succ, List.getElem_cons_zero, List.setIfInBounds_toArray, List.set_cons_zero, List.set_cons_succ]
                refine wpAnyH_take (i := 7) (v := ?_) rfl (by kernel_rfl) (by kernel_rfl) (by kernel_rfl) (fun _ _ _ h => h) (Or.inl ⟨by rfl, ?_⟩) (by assumption) ?_
                rotate_left
                · (intro w hSw; (try dsimp only at hSw); obtain ⟨p0, p1⟩ := HPX.out w (HTJ.out.trans hSw (by simp)); go_simp; try with_reducible rfl)
                try simp only [Act.put, List.getElem_toArray, List.getElem_cons_succ, List.getElem_cons_zero, List.setIfInBounds_toArray, List.set_cons_zero, List.set_cons_succ]
                refine wpAnyH_take (i := 8) (v := ?_) rfl (by kernel_rfl) (by kernel_rfl) (by kernel_rfl) (fun _ _ _ h => h) (Or.inl ⟨by rfl, ?_⟩) (by assumption) ?_
                rotate_left
                · (intro w hSw; (try dsimp only at hSw); go_simp; try with_reducible rfl)
                try simp only [Act.put, List.getElem_toArray, List.getElem_cons_succ, List.getElem_cons_zero, List.setIfInBounds_toArray, List.set_cons_zero, List.set_cons_succ]
                refine wpAnyH_take (i := 9) (v := ?_) rfl (by kernel_rfl) (by kernel_rfl) (by kernel_rfl) (fun _ _ _ h => h) (Or.inl ⟨by rfl, ?_⟩) (by assumption) ?_
                rotate_left
                · (intro w hSw; (try dsimp only at hSw); go_simp; try with_reducible rfl)
                try simp only [Act.put, List.getElem_toArray, List.getElem_cons_succ, List.getElem_cons_zero, List.setIfInBounds_toArray, List.set_cons_zero, List.set_cons_succ]
                refine wpAnyH_take (i := 10) (v := ?_) rfl (by kernel_rfl) (by kernel_rfl) (by kernel_rfl) (fun _ _ _ h => h) (Or.inl ⟨by rfl, ?_⟩) (by assumption) ?_
                rotate_left
                · (intro w hSw; (try dsimp only at hSw); go_simp; try with_reducible rfl)
                try simp only [Act.put, List.getElem_toArray, List.getElem_cons_succ, List.getElem_cons_zero, List.setIfInBounds_toArray, List.set_cons_zero, List.set_cons_succ]
                refine wpAnyH_take (i := 11) (v := ?_) rfl (by kernel_rfl) (by kernel_rfl) (by kernel_rfl) (fun _ _ _ h => h) (Or.inl ⟨by rfl, ?_⟩) (by assumption) ?_
                rotate_left
                · (intro w hSw; (try dsimp only at hSw); go_simp; try with_reducible rfl)
                try simp only [Act.put, List.getElem_toArray, List.getElem_cons_succ, List.getElem_cons_zero, List.setIfInBounds_toArray, List.set_cons_zero, List.set_cons_succ]
                refine wpAnyH_take (i := 12) (v := ?_) rfl (by kernel_rfl) (by kernel_rfl) (by kernel_rfl) (fun _ _ _ h => h) (Or.inl ⟨by rfl, ?_⟩) (by assumption) ?_
                rotate_left
                · (intro w hSw; (try dsimp only at hSw); go_simp; try with_reducible rfl)
                try simp only [Act.put, List.getElem_toArray, List.getElem_cons_succ, List.getElem_cons_zero, List.setIfInBounds_toArray, List.set_cons_zero, List.set_cons_succ]
                refine wpAnyH_take (i := 13) (v := ?_) rfl (by kernel_rfl) (by kernel_rfl) (by kernel_rfl) (fun _ _ _ h => h) (Or.inl ⟨by rfl, ?_⟩) (by assumption) ?_
                rotate_left
                · (intro w hSw; (try dsimp only at hSw); have p0 := HQ.out w hSw; go_simp; try with_reducible rfl)
                try simp only [Act.put, List.getElem_toArray, List.getElem_cons_succ, List.getElem_cons_zero, List.setIfInBounds_toArray, List.set_cons_zero, List.set_cons_succ]
                refine wpAnyH_take (i := 14) (v := ?_) rfl (by kernel_rfl) (by kernel_rfl) (by kernel_rfl) (fun _ _ _ h => h) (Or.inl ⟨by rfl, ?_⟩) (by assumption) ?_
                rotate_left
                · (intro w hSw; (try dsimp only at hSw); go_simp; try with_reducible rfl)
                try simp only [Act.put, List.getElem_toArray, List.getElem_cons_succ, List.getElem_cons_zero, List.setIfInBounds_toArray, List.set_cons_zero, List.set_cons_succ]
                refine wpAnyH_take (i := 15) (v := ?_) rfl (by kernel_rfl) (by kernel_rfl) (by kernel_rfl) (fun _ _ _ h => h) (Or.inl ⟨by rfl, ?_⟩) (by assumption) ?_
                rotate_left
                · (intro w hSw; (try dsimp only at hSw); go_simp; try with_reducible rfl)
                try simp only [Act.put, List.getElem_toArray, List.getElem_cons_succ, List.getElem_cons_zero, List.setIfInBounds_toArray, List.set_cons_zero, List.set_cons_succ]
                refine wpAnyH_take (i := 16) (v := ?_) rfl (by kernel_rfl) (by kernel_rfl) (by kernel_rfl) (fun _ _ _ h => h) (Or.inl ⟨by rfl, ?_⟩) (by assumption) ?_
                rotate_left
                · (intro w hSw; (try dsimp only at hSw); go_simp; try with_reducible rfl)
                try simp only [Act.put, List.getElem_toArray, List.getElem_cons_succ, List.getElem_cons_zero, List.setIfInBounds_toArray, List.set_cons_zero, List.set_cons_succ]
                refine wpAnyH_done (by kernel_rfl) ?_ _
                go_wp2_with fail
                refine ⟨⟨y' + 1 + 1, by have := HLY.out; omega, by rw [HYI.out]; simp, HWA.out.trans HTJ.out.drew (by simp)⟩, ?_⟩
                have := HLY.out
                have := HYI.out
                simp [intOf]; omega
        · obtain rfl : y = N := by omega
          have hyy : ¬ (y : Int) < (y : Int) := by omega
          have h4 := H1.out.2.2.2
          have hle : (R : Int) ≤ 16 + 16 * (soN so s : Int) := by omega
          have hR0 : (0 : Int) ≤ (R : Int) := by omega
          clear hlt hy hT
          go_wp2_with fail
          go_ret
          exact ⟨rfl, HT1.out.trans HTY.out (by simp)⟩
end Col
end Go.Proofs.Ythnmnpjjpckeeaa

set_option linter.unusedVariables false
set_option linter.unusedSimpArgs false
namespace Go.Proofs.Ythnmnpjjpckeeaa
namespace Col
open Go.RowKit Go.Maps Arn Pac Clm Cnt

variable {w W W' : World} {b kh cb ib ab sb n k m i r R R0 : Nat} {rr qq : Nat → Nat} {c : Nat → Option Ct} {A : Ar} {D : Ct} {C : Co} {v : Value} {V : List (Nat × Obj)} {ohs : Obj} {sl : Nat → Nat} {inn al so : Nat → Bool}
def findX (kh cb ib ab sb : Nat) (ohs : Obj) (rr : Nat → Nat) (c : Nat → Option Ct) (inn al so : Nat → Bool) (n : Nat) : List (Nat × Obj) := [(kh, ohs), (cb, oPtrs rr c n), (ib, oBools inn n), (ab, oBools al n), (sb, oBools so n)]
/-- One of the blocks turns. -/
theorem poke_at {X1 X2 : List (Nat × Obj)} {x j : Nat} {o o' : Obj} {u : Value} (S : Crew w b (X1 ++ (x, o) :: X2) n rr qq c A k W) (ho : (W.setCell ⟨x, j, none⟩ u).heap[x]? = some o') : Crew w b (X1 ++ (x, o') :: X2) n rr qq c A k (W.setCell ⟨x, j, none⟩ u) := by
  have hd := S.dist
  rw [List.map_append, List.map_cons, List.nodup_append] at hd
  obtain ⟨d1, d2, d3⟩ := hd
  rw [List.nodup_cons] at d2
  refine S.poke (x := x) (o := o) (by simp) ho (by simp) (fun p hp => ?_)
  rcases List.mem_append.1 hp with hp | hp
  · exact .inr ⟨List.mem_append_left _ hp, fun e => d3 p.1 (List.mem_map_of_mem hp) x (by simp) e⟩
  · rcases List.mem_cons.1 hp with rfl | hp
    · exact .inl rfl
    · exact .inr ⟨List.mem_append_right _ (List.mem_cons_of_mem _ hp), fun e => d2.1 (by have := List.mem_map_of_mem (f := Prod.fst) hp; rw [e] at this; exact this)⟩
/-- What all states have. -/
structure FS (w : World) (b kh cb ib ab sb : Nat) (ohs : Obj) (sl : Nat → Nat) (n r : Nat) (v : Value) (C : Co) (V : List (Nat × Obj)) (rr qq : Nat → Nat) (c : Nat → Option Ct) (inn al so : Nat → Bool) (A : Ar) (k : Nat) (W : World) : Prop where
  obj : CoObj w.heap.size r b C v V
  crew : Crew w b (V ++ findX kh cb ib ab sb ohs rr c inn al so n) n rr qq c A k W
  seg : SegA A 4 (fun g j => ((bF c n g j : Nat) : Int))
  gd : Gd sl c n
  n12 : n ≤ 12
  s15 : ∀ i, sl i < 15
theorem FS.turn (S : FS w b kh cb ib ab sb ohs sl n r v C V rr qq c inn al so A k W) (ht : Frm.Turn [] W W') : FS w b kh cb ib ab sb ohs sl n r v C V rr qq c inn al so A k W' := ⟨S.obj, S.crew.turn ht, S.seg, S.gd, S.n12, S.s15⟩
theorem FS.x (S : FS w b kh cb ib ab sb ohs sl n r v C V rr qq c inn al so A k W) {p : Nat × Obj} (hp : p ∈ findX kh cb ib ab sb ohs rr c inn al so n) : W.heap[p.1]? = some p.2 := S.crew.x (x := p.1) (o := p.2) (List.mem_append_right _ hp)
theorem FS.ptr (S : FS w b kh cb ib ab sb ohs sl n r v C V rr qq c inn al so A k W) (hi : i < n) : W.cell? ⟨cb, i, none⟩ = some (ptrV rr c i) ∧ W.frozen? ⟨cb, i, none⟩ = false := cell_of (S.x (p := (cb, oPtrs rr c n)) (by simp [findX])) (row_get hi)
theorem FS.in_ (S : FS w b kh cb ib ab sb ohs sl n r v C V rr qq c inn al so A k W) (hi : i < n) : W.cell? ⟨ib, i, none⟩ = some (.bool (inn i)) ∧ W.frozen? ⟨ib, i, none⟩ = false := cell_of (S.x (p := (ib, oBools inn n)) (by simp [findX])) (row_get hi)
theorem FS.al_ (S : FS w b kh cb ib ab sb ohs sl n r v C V rr qq c inn al so A k W) (hi : i < n) : W.cell? ⟨ab, i, none⟩ = some (.bool (al i)) ∧ W.frozen? ⟨ab, i, none⟩ = false := cell_of (S.x (p := (ab, oBools al n)) (by simp [findX])) (row_get hi)
theorem FS.so_ (S : FS w b kh cb ib ab sb ohs sl n r v C V rr qq c inn al so A k W) (hi : i < n) : W.cell? ⟨sb, i, none⟩ = some (.bool (so i)) ∧ W.frozen? ⟨sb, i, none⟩ = false := cell_of (S.x (p := (sb, oBools so n)) (by simp [findX])) (row_get hi)
theorem FS.hs (S : FS w b kh cb ib ab sb ohs sl n r v C V rr qq c inn al so A k W) : W.heap[kh]? = some ohs := S.x (p := (kh, ohs)) (by simp [findX])
theorem FS.ne (S : FS w b kh cb ib ab sb ohs sl n r v C V rr qq c inn al so A k W) : cb ≠ ib ∧ cb ≠ ab ∧ cb ≠ sb ∧ ib ≠ ab ∧ ib ≠ sb ∧ ab ≠ sb := by
  have hd := S.crew.dist
  rw [List.map_append, List.nodup_append] at hd
  have h := hd.2.1
  simp only [findX, List.map_cons, List.map_nil, List.nodup_cons, List.mem_cons, List.not_mem_nil, or_false, not_or, not_false_eq_true, and_true, List.nodup_nil] at h
  exact ⟨h.2.1.1, h.2.1.2.1, h.2.1.2.2, h.2.2.1.1, h.2.2.1.2, h.2.2.2⟩
/-- A step of one that counts. -/
theorem FS.stepC (S : FS w b kh cb ib ab sb ohs sl n r v C V rr qq c inn al so A k W) (hk : k ≤ 1000000) (hi : i < n) (hc : c i = some D) :
    Calls Try.prog 16 #[.pointer (some ⟨rr i, 0, none⟩)] W fun e w' => e = .returned (.tuple #[]) ∧ FS w b kh cb ib ab sb ohs sl n r v C V rr qq (upd c i (some (D.step A).2)) inn al so (D.step A).1 (k + 1) w' := by
  refine (S.crew.step hk hi hc).mono ?_
  rintro e w' ⟨he, h1⟩
  refine ⟨he, S.obj, ?_, back_step S.seg S.gd S.n12 hi (S.s15 i) hc, gd_upd S.gd ((S.gd i D hi hc).step A), S.n12, S.s15⟩
  have e2 : findX kh cb ib ab sb ohs rr (upd c i (some (D.step A).2)) inn al so n = findX kh cb ib ab sb ohs rr c inn al so n := by unfold findX oPtrs; rw [ptrs_keep rr c _ hc]
  rw [e2]; exact h1
theorem step_reads (D : Ct) (A : Ar) : (D.step A).1.t.reads = A.t.reads := by
  unfold Ct.step
  split
  · exact add_reads _ _ _ _
  · rfl
/-- One is made anew and put into the row. -/
theorem FS.anew {r2 q2 : Nat} (S : FS w b kh cb ib ab sb ohs sl n r v C V rr qq c inn al so A k W) (hi : i < n) (hm : MadeC W b D r2 q2 W') (hD : OneOk (sl i) D) (hcon : ∀ g j, conO (some D) g j = conO (c i) g j) :
    FS w b kh cb ib ab sb ohs sl n r v C V (upd rr i r2) (upd qq i q2) (upd c i (some D)) inn al so A k (W'.setCell ⟨cb, i, none⟩ (.pointer (some ⟨r2, 0, none⟩))) := by
  have hs := S.s15 i
  have S1 := S.crew.made (i := i) hm (hD.fit (by omega))
  refine ⟨S.obj, ?_, back_anew S.seg hi hcon, gd_upd S.gd hD, S.n12, S.s15⟩
  have S2 : Crew w b ((V ++ [(kh, ohs)]) ++ (cb, oPtrs rr c n) :: [(ib, oBools inn n), (ab, oBools al n), (sb, oBools so n)]) n (upd rr i r2) (upd qq i q2) (upd c i (some D)) A k W' := by
    rw [List.append_assoc]; exact S1
  have h1 := S2.x (x := cb) (o := oPtrs rr c n) (by simp)
  have h2 := heap_put (i := i) (.pointer (some ⟨r2, 0, none⟩)) h1
  rw [ptrs_put rr c D r2 hi] at h2
  have h3 := poke_at S2 (o' := oPtrs (upd rr i r2) (upd c i (some D)) n) h2
  rw [List.append_assoc] at h3
  exact h3
theorem FS.putIn (S : FS w b kh cb ib ab sb ohs sl n r v C V rr qq c inn al so A k W) (hi : i < n) (x : Bool) : FS w b kh cb ib ab sb ohs sl n r v C V rr qq c (upd inn i x) al so A k (W.setCell ⟨ib, i, none⟩ (.bool x)) := by
  refine ⟨S.obj, ?_, S.seg, S.gd, S.n12, S.s15⟩
  have S2 : Crew w b ((V ++ [(kh, ohs), (cb, oPtrs rr c n)]) ++ (ib, oBools inn n) :: [(ab, oBools al n), (sb, oBools so n)]) n rr qq c A k W := by
    rw [List.append_assoc]; exact S.crew
  have h1 := S2.x (x := ib) (o := oBools inn n) (by simp)
  have h2 := heap_put (i := i) (.bool x) h1
  rw [bools_put inn x hi] at h2
  have h3 := poke_at S2 (o' := oBools (upd inn i x) n) h2
  rw [List.append_assoc] at h3
  exact h3
theorem FS.putAl (S : FS w b kh cb ib ab sb ohs sl n r v C V rr qq c inn al so A k W) (hi : i < n) (x : Bool) : FS w b kh cb ib ab sb ohs sl n r v C V rr qq c inn (upd al i x) so A k (W.setCell ⟨ab, i, none⟩ (.bool x)) := by
  refine ⟨S.obj, ?_, S.seg, S.gd, S.n12, S.s15⟩
  have S2 : Crew w b ((V ++ [(kh, ohs), (cb, oPtrs rr c n), (ib, oBools inn n)]) ++ (ab, oBools al n) :: [(sb, oBools so n)]) n rr qq c A k W := by
    rw [List.append_assoc]; exact S.crew
  have h1 := S2.x (x := ab) (o := oBools al n) (by simp)
  have h2 := heap_put (i := i) (.bool x) h1
  rw [bools_put al x hi] at h2
  have h3 := poke_at S2 (o' := oBools (upd al i x) n) h2
  rw [List.append_assoc] at h3
  exact h3
theorem FS.putSo (S : FS w b kh cb ib ab sb ohs sl n r v C V rr qq c inn al so A k W) (hi : i < n) (x : Bool) : FS w b kh cb ib ab sb ohs sl n r v C V rr qq c inn al (upd so i x) A k (W.setCell ⟨sb, i, none⟩ (.bool x)) := by
  refine ⟨S.obj, ?_, S.seg, S.gd, S.n12, S.s15⟩
  have S2 : Crew w b ((V ++ [(kh, ohs), (cb, oPtrs rr c n), (ib, oBools inn n), (ab, oBools al n)]) ++ (sb, oBools so n) :: []) n rr qq c A k W := by
    rw [List.append_assoc]; exact S.crew
  have h1 := S2.x (x := sb) (o := oBools so n) (by simp)
  have h2 := heap_put (i := i) (.bool x) h1
  rw [bools_put so x hi] at h2
  have h3 := poke_at S2 (o' := oBools (upd so i x) n) h2
  rw [List.append_assoc] at h3
  exact h3
theorem FS.done (S : FS w b kh cb ib ab sb ohs sl n r v C V rr qq c inn al so A k W) (hi : i < n) : Calls Try.prog 11 #[ptrV rr c i] W fun e w' => e = .returned (.bool (doneC (c i))) ∧ W = w' := by
  unfold ptrV
  cases hc : c i with
  | none => exact doneC_nil W
  | some C => exact doneC_any (S.crew.at_ i C hi hc).1
theorem exX_eq9 {s : Nat} (hs : s < 255) : (⟨hS (sgN s), s, min (0 : Int).toNat (kN s), min (9 : Int).toNat (kN s), 18446744073709551615⟩ : Ct) = exX s := by
  have := (kN_le hs).2
  unfold exX lessM
  have e1 : min (0 : Int).toNat (kN s) = 0 := by simp
  have e2 : min (9 : Int).toNat (kN s) = kN s := by show min 9 (kN s) = kN s; omega
  rw [e1, e2]
theorem exit9 {s : Nat} (hs : s < 255) (W : World) : Calls Try.prog 13 #[.pointer (some ⟨b, 0, none⟩), .agg #[.int .u64 (hS (sgN s)), .int .i64 s], .int .i64 0, .int .i64 9] W fun e w' => ∃ r q, e = .returned (.pointer (some ⟨r, 0, none⟩)) ∧ MadeC W b (exX s) r q w' := by
  have := exitC_any (b := b) (hS (sgN s)) s 0 9 W hs (by omega) (by omega) (by omega) (by omega)
  rw [exX_eq9 hs] at this
  exact this
/-- Between two picks. -/
def FinR (w : World) (b kh cb ib ab sb : Nat) (ohs : Obj) (sl : Nat → Nat) (n m r R0 : Nat) (W : World) : Prop :=
  ∃ v C V rr qq c inn al so A k R, FS w b kh cb ib ab sb ohs sl n r v C V rr qq c inn al so A k W ∧ Cp inn c 0 n ∧ FI n sl c al so C R ∧ A.t.reads = R0 + R ∧ k ≤ 20 + m
theorem fi_keep (I : FI n sl c al so C R) (h1 : al i = false) (h2 : so i = true) (o : Option Ct) : FI n sl (upd c i o) al so C R := by
  have := fi_pick (i := i) I o
  have e1 : upd al i false = al := by
    funext j
    by_cases e : j = i
    · subst e; rw [upd_at, h1]
    · rw [upd_ne _ _ e]
  have e2 : upd so i true = so := by
    funext j
    by_cases e : j = i
    · subst e; rw [upd_at, h2]
    · rw [upd_ne _ _ e]
  rw [e1, e2] at this
  exact this
/-- The collect steps. -/
theorem fin_collect (S : FS w b kh cb ib ab sb ohs sl n r v C V rr qq c inn al so A k W) (hp : Cp inn c 0 n) (I : FI n sl c al so C R) (hR : A.t.reads = R0 + R) (hk : k ≤ 20 + m) (hm : m ≤ 1000) (hph : C.ph ≠ 2) :
    Calls Try.prog 12 #[.pointer (some ⟨r, 0, none⟩)] W fun e w' => e = .returned (.tuple #[]) ∧ FinR w b kh cb ib ab sb ohs sl n (m + 1) r R0 w' := by
  refine (co_step S.obj S.crew (by omega) (by omega) I.fit S.seg).mono ?_
  rintro e w' ⟨he, v', V', O', S'⟩
  obtain ⟨a1, a2, _⟩ := acc_seg (by omega) I.fit S.seg
  refine ⟨he, v', _, V', rr, qq, c, inn, al, so, _, _, R + 1, ⟨O', S', a1, S.gd, S.n12, S.s15⟩, hp, fi_step S.gd S.s15 I hph, ?_, by omega⟩
  rw [a2, if_neg hph, hR]; omega
/-- Behind the choice: there is one at i; what is written down of it is not yet. -/
def FinM (w : World) (b kh cb ib ab sb : Nat) (ohs : Obj) (sl : Nat → Nat) (n m r R0 i : Nat) (W : World) : Prop :=
  ∃ v C V rr qq c inn al so A k R D, FS w b kh cb ib ab sb ohs sl n r v C V rr qq c inn al so A k W ∧ Cp inn c 0 n ∧ FI n sl c (upd al i false) (upd so i true) C R ∧ A.t.reads = R0 + R ∧ k ≤ 20 + m ∧ c i = some D
theorem FinM.cells (h : FinM w b kh cb ib ab sb ohs sl n m r R0 i W) (hi : i < n) : ∃ x y, W.cell? ⟨ab, i, none⟩ = some x ∧ W.frozen? ⟨ab, i, none⟩ = false ∧ W.cell? ⟨sb, i, none⟩ = some y ∧ W.frozen? ⟨sb, i, none⟩ = false ∧ ab ≠ sb := by
  obtain ⟨v, C, V, rr, qq, c, inn, al, so, A, k, R, D, S, _⟩ := h
  exact ⟨_, _, (S.al_ hi).1, (S.al_ hi).2, (S.so_ hi).1, (S.so_ hi).2, S.ne.2.2.2.2.2⟩
theorem FinM.step (h : FinM w b kh cb ib ab sb ohs sl n m r R0 i W) (hi : i < n) (hm : m ≤ 1000) : ∃ r2, ((W.setCell ⟨ab, i, none⟩ (.bool false)).setCell ⟨sb, i, none⟩ (.bool true)).cell? ⟨cb, i, none⟩ = some (.pointer (some ⟨r2, 0, none⟩)) ∧
    Calls Try.prog 16 #[.pointer (some ⟨r2, 0, none⟩)] ((W.setCell ⟨ab, i, none⟩ (.bool false)).setCell ⟨sb, i, none⟩ (.bool true)) fun e w' => e = .returned (.tuple #[]) ∧ FinR w b kh cb ib ab sb ohs sl n (m + 1) r R0 w' := by
  obtain ⟨v, C, V, rr, qq, c, inn, al, so, A, k, R, D, S, h1, h2, h3, h4, h5⟩ := h
  have S2 := (S.putAl hi false).putSo hi true
  have hp := (S2.ptr hi).1
  have e : ptrV rr c i = .pointer (some ⟨rr i, 0, none⟩) := by unfold ptrV; rw [h5]; rfl
  rw [e] at hp
  refine ⟨rr i, hp, (S2.stepC (by omega) hi h5).mono ?_⟩
  rintro e w' ⟨he, S'⟩
  exact ⟨he, v, C, V, rr, qq, _, inn, _, _, _, _, R, S', cp_step h1 h5 A, fi_keep h2 (upd_at _ _ _) (upd_at _ _ _) _, by rw [step_reads]; exact h3, by omega⟩
theorem fin_enter {r2 q2 : Nat} (S : FS w b kh cb ib ab sb ohs sl n r v C V rr qq c inn al so A k W) (hk : k ≤ 20 + m) (hp : Cp inn c 0 n) (I : FI n sl c al so C R) (hR : A.t.reads = R0 + R) (hi : i < n) (hd : doneC (c i) = true) (hin : inn i = false) (hm : MadeC W b (enX (sl i)) r2 q2 W') :
    FinM w b kh cb ib ab sb ohs sl n m r R0 i ((W'.setCell ⟨cb, i, none⟩ (.pointer (some ⟨r2, 0, none⟩))).setCell ⟨ib, i, none⟩ (.bool true)) := by
  have S1 := S.anew hi hm (enX_ok _) (fun g j => by
    rw [conO_enX]
    cases hc : c i with
    | none => rfl
    | some C =>
      rw [hc] at hd
      rcases (hp i (Nat.zero_le _) hi).2 C hc with ⟨_, e⟩ | ⟨e, _⟩
      · rw [hin] at e; cases e
      · exact (done_out (S.gd i C hi hc) (of_decide_eq_true hd) e g j).symm)
  exact ⟨v, C, V, _, _, _, _, al, so, A, k, R, _, S1.putIn hi true, cp_enter hp, fi_pick I _, hR, hk, upd_at _ _ _⟩
theorem fin_exit {r2 q2 : Nat} (S : FS w b kh cb ib ab sb ohs sl n r v C V rr qq c inn al so A k W) (hk : k ≤ 20 + m) (hp : Cp inn c 0 n) (I : FI n sl c al so C R) (hR : A.t.reads = R0 + R) (hi : i < n) (hd : doneC (c i) = true) (hin : inn i = true) (hm : MadeC W b (exX (sl i)) r2 q2 W') :
    FinM w b kh cb ib ab sb ohs sl n m r R0 i ((W'.setCell ⟨cb, i, none⟩ (.pointer (some ⟨r2, 0, none⟩))).setCell ⟨ib, i, none⟩ (.bool false)) := by
  have S1 := S.anew hi hm (exX_ok _) (fun g j => by
    cases hc : c i with
    | none => rw [(hp i (Nat.zero_le _) hi).1 hc] at hin; cases hin
    | some C =>
      rw [hc] at hd
      rcases (hp i (Nat.zero_le _) hi).2 C hc with ⟨e, _⟩ | ⟨_, e⟩
      · exact done_in (S.gd i C hi hc) (of_decide_eq_true hd) e g j
      · rw [hin] at e; cases e)
  exact ⟨v, C, V, _, _, _, _, al, so, A, k, R, _, S1.putIn hi false, cp_exit hp, fi_pick I _, hR, hk, upd_at _ _ _⟩
theorem fin_on (S : FS w b kh cb ib ab sb ohs sl n r v C V rr qq c inn al so A k W) (hk : k ≤ 20 + m) (hp : Cp inn c 0 n) (I : FI n sl c al so C R) (hR : A.t.reads = R0 + R) (hd : doneC (c i) = false) : FinM w b kh cb ib ab sb ohs sl n m r R0 i W := by
  cases hc : c i with
  | none => rw [hc] at hd; cases hd
  | some D =>
    have := fi_pick (i := i) I (c i)
    rw [upd_self] at this
    exact ⟨v, C, V, rr, qq, c, inn, al, so, A, k, R, D, S, hp, this, hR, hk, hc⟩
/-- A collect begins: those that are there are written down, y of them were. -/
def flA (inn : Nat → Bool) (c : Nat → Option Ct) (al : Nat → Bool) (y : Nat) : Nat → Bool := fun j => if j < y then inn j && doneC (c j) else al j
def flS (inn : Nat → Bool) (c : Nat → Option Ct) (so : Nat → Bool) (y : Nat) : Nat → Bool := fun j => if j < y then inn j || !doneC (c j) else so j
theorem flA_succ (inn : Nat → Bool) (c : Nat → Option Ct) (al : Nat → Bool) (y : Nat) : flA inn c al (y + 1) = upd (flA inn c al y) y (inn y && doneC (c y)) := by
  funext j
  unfold flA
  by_cases e : j = y
  · subst e; rw [upd_at, if_pos (by omega)]
  · rw [upd_ne _ _ e]
    by_cases h : j < y
    · rw [if_pos h, if_pos (by omega)]
    · rw [if_neg h, if_neg (by omega)]
theorem flS_succ (inn : Nat → Bool) (c : Nat → Option Ct) (so : Nat → Bool) (y : Nat) : flS inn c so (y + 1) = upd (flS inn c so y) y (inn y || !doneC (c y)) := by
  funext j
  unfold flS
  by_cases e : j = y
  · subst e; rw [upd_at, if_pos (by omega)]
  · rw [upd_ne _ _ e]
    by_cases h : j < y
    · rw [if_pos h, if_pos (by omega)]
    · rw [if_neg h, if_neg (by omega)]
theorem fi_same {al' so' : Nat → Bool} (I : FI n sl c al so C R) (h1 : ∀ i, i < n → al' i = al i) (h2 : ∀ i, i < n → so' i = so i) : FI n sl c al' so' C R := by
  obtain ⟨f0, f1, f2, f3, f4, f5, f6, f7⟩ := I
  refine ⟨f0, fun i hi ha => f1 i hi (by rw [← h1 i hi]; exact ha), fun i hi ha => f2 i hi (by rw [← h2 i hi]; exact ha), fun i hi ha => f3 i hi (by rw [← h1 i hi]; exact ha), fun s hm => ?_, f5, f6, fun h => f7 (fun i hi => by rw [← h2 i hi]; exact h i hi)⟩
  obtain ⟨q1, i, q2, q3, q4⟩ := f4 s hm
  exact ⟨q1, i, q2, by rw [h2 i q2]; exact q3, q4⟩
/-- found tells yes. -/
theorem fs_found {v1 : Value} {z1 : Nat → Int} {kc : Nat} (S : FS w b kh cb ib ab sb ohs sl n r v C V rr qq c inn al so A k W) (I : FI n sl c al so C R) (hph : C.ph = 2) (hO : HsO ohs kh 4) (hb : BytesC w v1 z1 n) (hz : ∀ i, i < n → 0 ≤ z1 i ∧ z1 i < 256) (hsl : ∀ i, i < n → z1 i % 15 = (sl i : Int)) :
    Calls Try.prog 10 #[.pointer (some ⟨r, 0, none⟩), .slice (some ⟨kh, 0, none⟩) 4 kc, v1, .slice (some ⟨ab, 0, none⟩) n n, .slice (some ⟨sb, 0, none⟩) n n, .int .i64 R] W fun e w' => e = .returned (.bool true) ∧ Frm.Turn [] W w' := by
  obtain ⟨e1, e2⟩ := fi_end I hph S.s15
  have h15 : C.L.length ≤ 15 := by have := I.fit.few; rw [pos_2 hph] at this; exact this
  have hbW : BytesC W v1 z1 n := by
    obtain ⟨h1, h2⟩ := hb
    refine ⟨h1, ?_⟩
    rcases h2 with h2 | ⟨ga, gc, rfl, h2⟩
    · exact .inl h2
    · exact .inr ⟨ga, gc, rfl, fun i hi => S.crew.kin.turn.cell (h2 i hi) (by simp)⟩
  exact found_any v1 z1 C.L R W (co_places S.obj S.crew (by omega)) (hO W S.hs) hbW hz hsl S.s15 (fun i hi => (S.al_ hi).1) (fun i hi => (S.so_ hi).1) S.n12 e1 (fun s hs => (I.was s hs).2) I.up e2 h15 I.fit.small
theorem FinR.turn (h : FinR w b kh cb ib ab sb ohs sl n m r R0 W) (ht : Frm.Turn [] W W') : FinR w b kh cb ib ab sb ohs sl n m r R0 W' := by
  obtain ⟨v, C, V, rr, qq, c, inn, al, so, A, k, R, S, h1⟩ := h
  exact ⟨v, C, V, rr, qq, c, inn, al, so, A, k, R, S.turn ht, h1⟩
/-- A new collect in the place of the old one. -/
theorem fs_new (S : FS w b kh cb ib ab sb ohs sl n r v C V rr qq c inn al so A k W) : Calls Try.prog 7 #[.pointer (some ⟨b, 0, none⟩)] W fun e w' => ∃ r2 V2, e = .returned (.pointer (some ⟨r2, 0, none⟩)) ∧ FS w b kh cb ib ab sb ohs sl n r2 (.slice none 0 0) Co.new V2 rr qq c inn al so A k w' ∧ Frm.Turn [] W w' := by
  refine (co_new S.crew).mono ?_
  rintro e w' ⟨r2, V2, he, O2, S2, hT⟩
  have S3 : Crew w b (V ++ (V2 ++ findX kh cb ib ab sb ohs rr c inn al so n)) n rr qq c A k w' := by
    refine Crew.perm S2 ?_
    rw [← List.append_assoc, ← List.append_assoc]
    exact List.Perm.append_right _ List.perm_append_comm
  exact ⟨r2, V2, he, ⟨O2, Crew.drop S3, S.seg, S.gd, S.n12, S.s15⟩, hT⟩
end Col
end Go.Proofs.Ythnmnpjjpckeeaa
