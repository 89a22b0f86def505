/- Law QuadFew, walked. -/
import Derived.Test.YtennngngdmdpnaaQuadLaid
import Derived.Test.YtennngngdmdpnaaQuadFirst
import Derived.Deep.QuietTactic
import Derived.BigQuiet
import Derived.StillTactics
set_option linter.unusedVariables false
set_option linter.unusedSimpArgs false
namespace Go.Proofs.Ytennngngdmdpnaa
namespace Qud
open Go.RowKit Go.Maps Arn

theorem i64_wrap (z : Int) : I64 (wrap64 z) := by
  have := wrap64_wf z
  simp [Lit.wf, IntKind.min, IntKind.max, IntKind.bits, IntKind.signed] at this
  unfold I64
  omega
/-- Blocks are too many, or not. -/
def GEnd (w : World) (n : Nat) (e : Ending) (w' : World) : Prop := ∃ b, e = .returned (.bool b) ∧ (b = false → n ≤ 60) ∧ w = w'
set_option maxRecDepth 100000 in
set_option maxHeartbeats 4000000 in
theorem great7_any (wv : Value) (R : List RowV) (w : World) (hw : RowsAt w wv R) (hm : R.length ≤ 9223372036854775807) (h64 : ∀ x, x ∈ R → x.2.length ≤ 9223372036854775807) :
    Calls Try.prog 12 #[wv] w (GEnd w R.length) := by
  obtain ⟨wa, wc, rfl⟩ := rows_form hw
  obtain ⟨n, HN⟩ : ∃ n, Hid (n = R.length) := ⟨_, Lib.hid rfl⟩
  have HW := Lib.hid hw
  have H64 := Lib.hid h64
  rw [← HN.out] at hm HW ⊢
  clear hw h64
  go_enter Try.func12, Try.ntmps12
  go_wp2
  go_loopw [3, 8] (fun s i wr => ∃ j : Nat, j ≤ n ∧ i = .int .i64 j ∧ (∃ z, s = .int .i64 z ∧ I64 z) ∧ wr = w) (fun _ i _ => n - (intOf i).toNat)
  case atStart => exact ⟨0, Nat.zero_le _, rfl, ⟨0, rfl, by unfold I64; omega⟩, rfl⟩
  case round =>
    obtain ⟨j, hj, rfl, ⟨z, rfl, hz⟩, rfl⟩ := hrel
    by_cases hlt : j < n
    · obtain ⟨y, hy⟩ : ∃ y, R[j]? = some y := ⟨_, List.getElem?_eq_getElem (by rw [← HN.out]; exact hlt)⟩
      obtain ⟨og, oo, rfl, hcA⟩ := rows_cell HW.out hy
      have hmem := List.mem_of_getElem? hy
      obtain ⟨ya, yc, hyf⟩ := words_form (HW.out.2 y hmem)
      have hyl := H64.out y hmem
      rw [hyf] at hcA
      generalize y.2.length = k at hcA hyl
      clear hy hyf hmem
      go_wp2
      refine ⟨⟨j + 1, by omega, by simp, ⟨_, rfl, ?_⟩, trivial⟩, ?_⟩
      · exact i64_wrap _
      · simp [intOf]; omega
    · obtain rfl : j = n := by omega
      by_cases h1 : 600 < z
      · go_wp2
        go_ret
        exact ⟨true, rfl, by simp, rfl⟩
      · by_cases h2 : (60 : Int) < (j : Int)
        · go_wp2
          go_ret
          exact ⟨true, rfl, by simp, rfl⟩
        · go_wp2
          go_ret
          exact ⟨false, rfl, fun _ => by omega, rfl⟩
/-- What a tree has, whatever its blocks are. -/
theorem tree_good {A : Ar} (h : A.Ok) (root : Int) (hr : W64 root) (t : Tr) (ht : treeOf A.L root = some t) : t.1.length ≤ 4 * t.2.length ∧ Rise 0 256 t.2 ∧ (root = 0 ↔ t.2.length = 0) ∧ t.1.length ≤ 341 ∧ t.2.length ≤ 341 := by
  unfold treeOf at ht
  split at ht
  · rename_i h0
    cases ht
    exact ⟨by simp, ⟨by simp, by simp⟩, by simp [h0], by simp, by simp⟩
  · rename_i h0
    have h64 : ∀ k x, x ∈ ndOf A.L k → 0 ≤ x := fun k x hx => (ndOf_all (fun l => ∀ x, x ∈ l → W64 x) (by intro x hx; simp [zero4] at hx; subst hx; unfold W64; omega) A.L (fun x hx _ => h.wrd x hx) k x hx).1
    obtain ⟨h1, h2, h3⟩ := walk_good (fun k => ndOf_len _ k) h64 4 root 0 t h0 hr.1 ht
    have hc := walk_cap (ndOf A.L) 4 root 0 t ht
    refine ⟨h2, by simpa [pow4] using h3, ?_, by simpa [cap] using hc.1, by simpa [cap] using hc.2⟩
    have : 0 < t.2.length := List.length_pos_iff.2 h1
    constructor
    · intro e; exact absurd e h0
    · intro e; omega
theorem pair_lt {P : List (Int × Int)} (h : P.Pairwise (fun x y => x.1 < y.1)) {i : Nat} (hi : i + 1 < P.length) {x y : Int × Int} (hx : P[i + 1]? = some x) (hy : P[i]? = some y) : y.1 < x.1 := by
  have h1 := List.pairwise_iff_getElem.1 h i (i + 1) (by omega) hi (by omega)
  obtain ⟨_, e1⟩ := List.getElem?_eq_some_iff.1 hx
  obtain ⟨_, e2⟩ := List.getElem?_eq_some_iff.1 hy
  rw [← e1, ← e2]
  exact h1
theorem pair_cell {w : World} {base : Nat} {v : Value} {P : List (Int × Int)} (h : w.ownsRow base 51 2 v P.length (pairCells P)) : ∃ ao c, v = .slice ao P.length c ∧ ∀ (i : Nat) (x : Int × Int), P[i]? = some x → ∃ g, ao = some ⟨g, 0, none⟩ ∧ w.cell? ⟨g, i * 2, none⟩ = some (.int .i64 x.1) ∧ w.cell? ⟨g, i * 2 + 1, none⟩ = some (.int .i64 x.2) := by
  have hpc : ∀ (Q : List (Int × Int)) (i : Nat) (x : Int × Int), Q[i]? = some x → (pairCells Q)[i * 2]? = some (.int .i64 x.1) ∧ (pairCells Q)[i * 2 + 1]? = some (.int .i64 x.2) := by
    intro Q
    induction Q with
    | nil => intro i x hx; simp at hx
    | cons y t ih =>
      intro i x hx
      cases i with
      | zero => simp at hx; subst hx; exact ⟨rfl, rfl⟩
      | succ i =>
        have h1 := ih i x (by simpa using hx)
        have e : pairCells (y :: t) = [.int .i64 y.1, .int .i64 y.2] ++ pairCells t := by simp [pairCells]
        rw [e, show (i + 1) * 2 = i * 2 + 2 by omega, show i * 2 + 2 + 1 = i * 2 + 1 + 2 by omega]
        exact ⟨by simpa using h1.1, by simpa using h1.2⟩
  obtain ⟨ao, c, rfl⟩ := Frm.row_form h
  refine ⟨ao, c, rfl, fun i x hx => ?_⟩
  rcases ownsRow_shape h with ⟨e, e2⟩ | ⟨g, cap, e, _⟩
  · have : P = [] := List.length_eq_zero_iff.1 e2
    subst this
    simp at hx
  · simp only [Value.slice.injEq] at e
    obtain ⟨rfl, _, rfl⟩ := e
    have hc := World.ownsRow.cells h rfl
    obtain ⟨h1, h2⟩ := hpc P i x hx
    have c1 := hc _ _ h1
    have c2 := hc _ _ h2
    rw [Addr.add_lit, Nat.zero_add] at c1 c2
    exact ⟨g, rfl, c1, c2⟩
set_option maxRecDepth 100000 in
set_option maxHeartbeats 4000000 in
theorem few_any (wv : Value) (R : List RowV) (root : Int) (hroot : W64 root) (w : World) (hw : RowsAt w wv R) (hm : R.length ≤ 9223372036854775807) (h64 : ∀ x, x ∈ R → (∀ z, z ∈ x.2 → W64 z) ∧ x.2.length ≤ 9223372036854775807) :
    Calls Try.prog 4 #[wv, .int .u64 root] w fun e w' => e = .returned (.bool true) ∧ Frm.Turn [] w w' := by
  have HF := Lib.hid (first_any w)
  have HRW : Hid (∀ W, Frm.Turn [] w W → RowsAt W wv R) := Lib.hid fun W hT => hw.turn hT (by simp) (by simp)
  obtain ⟨wa, wc, rfl⟩ := rows_form hw
  have HGT : Hid (∀ W, Frm.Turn [] w W → Calls Try.prog 12 #[.slice wa R.length wc] W (GEnd W R.length)) := Lib.hid fun W hT => great7_any _ R W (HRW.out W hT) hm (fun x hx => (h64 x hx).2)
  have HBL : Hid (∀ W, Frm.Turn [] w W → R.length ≤ 60 → Calls Try.prog 13 #[.slice wa R.length wc] W fun e w' => ∃ b u A M, e = .returned (.tuple #[.pointer (some ⟨b, 0, none⟩), .agg u]) ∧ u.size = 20 ∧ u.all (·.oneCell') = true ∧ Sin W b M A R.length w') :=
    Lib.hid fun W hT h60 => laid_any _ R W (HRW.out W hT) (by omega) h64
  generalize R.length = n at HGT HBL ⊢
  clear hw h64 HRW hm
  go_enter Try.func4, Try.ntmps4
  go_upto_region 3 with (go_at_call 7; (with_reducible refine (HF.out).mono ?_); rintro e w1 ⟨rfl, hT⟩; have HT1 := Lib.hid hT; clear hT)
  go_wp2_with (go_at_call 12; (with_reducible refine (HGT.out _ HT1.out).mono ?_); rintro e w2 ⟨bb, rfl, hb60, rfl⟩; have HB60 := Lib.hid hb60; clear hb60)
  · go_ret
    exact ⟨rfl, HT1.out⟩
  have hbf : bb = false := by cases bb <;> simp_all
  have h60 := HB60.out hbf
  go_upto_region 6 with (first
    | (go_at_call 13; (with_reducible refine (HBL.out _ HT1.out h60).mono ?_); rintro e w3 ⟨b, u, A, M, rfl, hu, hone, hs⟩; have HU := Lib.hid hu; have HONE := Lib.hid hone; have HS := Lib.hid hs; clear hu hone hs)
    | (refine wpList_store_row rfl 41 (.tmp 6) (.tmp 20) rfl w3.heap.size u rfl rfl 41 zero20 (heap_new w3 _) (by rw [HU.out]; exact info_refA) (by rw [HU.out]; rfl) HONE.out ?_))
  simp only [Act.put]
  have hT4 : Frm.Turn [] w3 ((w3.alloc (.cells zero20 41)).setRow w3.heap.size u) := setRow_turn ((Frm.Turn.refl [] w3).alloc _) (.inr (Nat.le_refl _)) _
  unfold zero20 at hT4
  generalize (w3.alloc _).setRow w3.heap.size u = W4 at hT4 ⊢
  generalize w3.heap.size = b6
  have hs4 := HS.out.step hT4
  have HL := Lib.hid (list_any hs4.at_ root hroot)
  have HH := Lib.hid (fun W (hT : Frm.Turn [] W4 W) => handles_any (hs4.step hT).at_ root hroot)
  have HG := Lib.hid (tree_good hs4.at_.ok root hroot)
  have HT4 := Lib.hid (HT1.out.trans hs4.turn (by simp))
  obtain ⟨o, HOE⟩ : ∃ o, Hid (o = treeOf A.L root) := ⟨_, Lib.hid rfl⟩
  rw [← HOE.out] at HL HH HG
  clear hs4 hT4 HS HU HONE
  go_upto_region 8 with (first
    | (go_at_call 14; (with_reducible refine (HL.out).mono ?_); rintro e w5 ⟨v1, rfl, hr1, hT5⟩; have HR1 := Lib.hid hr1; have HT5 := Lib.hid hT5; clear hr1 hT5)
    | (go_at_call 15; (with_reducible refine (HH.out _ HT5.out).mono ?_); rintro e w6 ⟨v2, rfl, hr2, hT6⟩; have HR2 := Lib.hid hr2; have HT6 := Lib.hid hT6; clear hr2 hT6))
  cases ho : o with
  | none =>
    go_wp2
    go_ret
    exact ⟨rfl, HT4.out.trans (HT5.out.trans HT6.out (by simp)) (by simp)⟩
  | some t =>
    rw [ho] at HR1 HR2
    obtain ⟨hgl, hgr, hg0, hn1, hn2⟩ := HG.out t ho
    have hr1 := Frm.owns_turn HR1.out HT6.out (by simp)
    simp only [Option.getD_some] at hr1 HR2
    obtain ⟨a1, c1, rfl, hcl⟩ := pair_cell hr1
    obtain ⟨a2, c2, rfl⟩ := Frm.row_form HR2.out
    have HT7 := Lib.hid (HT4.out.trans (HT5.out.trans HT6.out (by simp)) (by simp))
    have HCL := Lib.hid hcl
    have HGR := Lib.hid hgr
    clear hr1 hcl hgr HR1 HR2
    go_wp2
    go_loopw [44] (fun i wr => ∃ j : Nat, j ≤ t.2.length ∧ i = .int .i64 j ∧ Frm.Turn [] w6 wr) (fun i _ => t.2.length - (intOf i).toNat)
    case atStart => exact ⟨0, by omega, rfl, Frm.Turn.refl _ _⟩
    case round =>
      obtain ⟨j, hj, rfl, hTr⟩ := hrel
      by_cases hlt : j < t.2.length
      · obtain ⟨x, hx⟩ : ∃ x, t.2[j]? = some x := ⟨_, List.getElem?_eq_getElem hlt⟩
        obtain ⟨g, rfl, hcx, hcy⟩ := HCL.out j x hx
        obtain ⟨xk, xv⟩ := x
        have hxr := HGR.out.2 (xk, xv) (List.mem_of_getElem? hx)
        have kx := hTr.cell hcx (by simp)
        have vx := hTr.cell hcy (by simp)
        have kx' := hTr.drew.cell hcx (by simp)
        have vx' := hTr.drew.cell hcy (by simp)
        have HTr := Lib.hid hTr
        obtain ⟨hx0, hx1, hx2, hx3⟩ := hxr
        cases j with
        | zero =>
          clear hTr hx
          have d2 : decide (xv < 0) = false := by simp; omega
          have d3 : decide (1023 < xv) = false := by simp; omega
          go_upto_region 13 with fail
          go_quiet (fail)
          go_wp2
          go_roundw
          case rel => exact ⟨0 + 1, by omega, by go_num, HTr.out.drewN _⟩
          case measure => simp [intOf]; omega
        | succ i =>
          obtain ⟨y, hy⟩ : ∃ y, t.2[i]? = some y := ⟨_, List.getElem?_eq_getElem (by omega)⟩
          obtain ⟨_, e, hyk, hyv⟩ := HCL.out i y hy
          cases e
          obtain ⟨yk, yv⟩ := y
          have hlty : yk < xk := by
            exact (pair_lt HGR.out.1 hlt hx hy)
          have ky := hTr.cell hyk (by simp)
          have ky' := hTr.drew.cell hyk (by simp)
          clear hTr hx hy
          have d1 : decide (xk ≤ yk) = false := by simp; omega
          have d2 : decide (xv < 0) = false := by simp; omega
          have d3 : decide (1023 < xv) = false := by simp; omega
          go_upto_region 13 with fail
          go_quiet (fail)
          go_wp2
          go_roundw
          case rel => exact ⟨i + 1 + 1, by omega, by go_num, HTr.out.drewN _⟩
          case measure => simp [intOf]; omega
      · obtain rfl : j = t.2.length := by omega
        have HTr := Lib.hid hTr
        clear hTr
        by_cases h0 : root = 0
        · have hz := hg0.1 h0
          have hz1 : t.1.length = 0 := by omega
          subst h0
          rw [hz, hz1]
          go_wp2
          go_ret
          exact ⟨rfl, HT7.out.trans HTr.out (by simp)⟩
        · have hz : ¬ t.2.length = 0 := fun e => h0 (hg0.2 e)
          generalize t.2.length = n2 at hgl hn2 hz ⊢
          generalize t.1.length = n1 at hgl hn1 ⊢
          have e1 : (root == 0) = false := by simpa using h0
          have e2 : ((n2 : Int) == 0) = false := by simp; omega
          have e3 : decide ((n1 : Int) ≤ 4 * (n2 : Int)) = true := by simp; omega
          go_wp2
          go_ret
          exact ⟨rfl, HT7.out.trans HTr.out (by simp)⟩
end Qud
end Go.Proofs.Ytennngngdmdpnaa
