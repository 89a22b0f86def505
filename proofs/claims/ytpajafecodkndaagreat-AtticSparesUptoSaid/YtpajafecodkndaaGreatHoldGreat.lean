/- The law's `great`: is a case too great? -/
import Derived.Test.YtpajafecodkndaaGreatHoldKit
import Derived.Test.YtpajafecodkndaaGreatHoldLaw
import Derived.Deep.MidRow
set_option linter.unusedVariables false
set_option linter.unusedSimpArgs false
namespace Go.Proofs.YtpajafecodkndaaGreat
namespace Hld
open Go.RowKit Go.Maps Arn Pac

/-- A list of lists of words as an argument. -/
def LstC (W : World) (v : Value) (u : Nat → Value) (l : Nat → List Int) (m : Nat) : Prop := (∃ ao c, v = .slice ao m c) ∧ (m = 0 ∨ ∃ ga c, v = .slice (some ga) m c ∧ ∀ i, i < m → W.cell? (ga.add i) = some (u i)) ∧ ∀ i, i < m → WordsAt W (u i) (l i)
theorem LstC.turn {W W' : World} {v : Value} {u : Nat → Value} {l : Nat → List Int} {m : Nat} (h : LstC W v u l m) (ht : Frm.Turn [] W W') : LstC W' v u l m :=
  ⟨h.1, h.2.1.imp id (fun ⟨ga, c, e, g⟩ => ⟨ga, c, e, fun i hi => ht.cell (g i hi) (by simp)⟩), fun i hi => (h.2.2 i hi).turn ht (by simp)⟩
def sumL (l : Nat → List Int) : Nat → Nat
  | 0 => 0
  | n + 1 => sumL l n + (10 + (l n).length)
theorem sumL_le (l : Nat → List Int) {a b : Nat} (h : a ≤ b) : sumL l a ≤ sumL l b := by
  induction h with
  | refl => exact Nat.le_refl _
  | @step m _ ih => exact Nat.le_trans ih (by show sumL l m ≤ sumL l m + (10 + (l m).length); omega)
def greatB (nP nR nL nW : Nat) (l : Nat → List Int) : Bool := decide (500 < nP + nR + sumL l nW) || decide (8 < nL) || decide (nW = 0) || decide (nR = 0)
/-- A list of jobs as an argument. -/
def jobL (z : Nat → Nat → Int) (i : Nat) : List Value := [.int .i64 (z i 0), .int .i64 (z i 1), .int .i64 (z i 2), .int .i64 (z i 3), .int .u64 (z i 4)]
def JobC (W : World) (v : Value) (z : Nat → Nat → Int) (m : Nat) : Prop := (∃ ao c, v = .slice ao m c) ∧ (m = 0 ∨ ∃ g o c, v = .slice (some ⟨g, o, none⟩) m c ∧ ∀ i, i < m → W.rangeAt g (o + i * 5) (jobL z i))
def caseV (vW vL vP vR : Value) : Value := .agg #[vW, vL, vP, vR]
set_option maxRecDepth 100000 in
set_option maxHeartbeats 4000000 in
theorem great_any {w : World} {vW : Value} {u : Nat → Value} {l : Nat → List Int} {nW nL nP nR : Nat} {aL aP aR : Option Addr} {cL cP cR : Nat} (hW : LstC w vW u l nW) (hs : nP + nR + sumL l nW ≤ 40000000) (hL : nL ≤ 40000000) :
    Calls Tryz.prog 8 #[caseV vW (.slice aL nL cL) (.slice aP nP cP) (.slice aR nR cR)] w fun e w' => e = .returned (.bool (greatB nP nR nL nW l)) ∧ Frm.Turn [] w w' := by
  obtain ⟨⟨aW, cW, rfl⟩, hrow, hwd⟩ := hW
  have hnW : nW ≤ 40000000 := by
    have : ∀ n, n ≤ sumL l n := by
      intro n
      induction n with
      | zero => exact Nat.zero_le _
      | succ n ih => show n + 1 ≤ sumL l n + (10 + (l n).length); omega
    have := this nW
    omega
  have HR := Lib.hid hrow
  have HWD := Lib.hid hwd
  have HS := Lib.hid hs
  have hnP : (nP : Int) ≤ 40000000 := by omega
  have hnR : (nR : Int) ≤ 40000000 := by omega
  have hnL : (nL : Int) ≤ 40000000 := by omega
  have hP0 : (0 : Int) ≤ (nP : Int) := by omega
  have hR0 : (0 : Int) ≤ (nR : Int) := by omega
  have hL0 : (0 : Int) ≤ (nL : Int) := by omega
  have hn0 : (nW : Int) ≤ 40000000 := by omega
  have hc := World.alloc_heap_new w (.cells #[.slice aW nW cW, .slice aL nL cL, .slice aP nP cP, .slice aR nR cR] 27)
  have HTC := Lib.hid ((Frm.Turn.refl [] w).alloc (.cells #[.slice aW nW cW, .slice aL nL cL, .slice aP nP cP, .slice aR nR cR] 27))
  have HC := Lib.hid hc
  unfold caseV
  clear hrow hwd hs hL hnW hc
  go_enter Tryz.func8, Tryz.ntmps8
  go_wp2
  go_loopw [16, 3] (fun i n wr => ∃ j : Nat, j ≤ nW ∧ i = .int .i64 j ∧ n = .int .i64 ((nP : Int) + (nR : Int) + (sumL l j : Int)) ∧ Frm.Turn [] (w.alloc (.cells #[.slice aW nW cW, .slice aL nL cL, .slice aP nP cP, .slice aR nR cR] 27)) wr) (fun i n _ => nW - (intOf i).toNat)
  case atStart => exact ⟨0, Nat.zero_le _, rfl, by show Value.int .i64 ((nP : Int) + (nR : Int)) = .int .i64 ((nP : Int) + (nR : Int) + ((0 : Nat) : Int)); rw [show (((0 : Nat) : Int)) = 0 from rfl, Int.add_zero], Frm.Turn.refl [] _⟩
  case round =>
    obtain ⟨j, hj, rfl, rfl, hT⟩ := hrel
    have hsj := sumL_le l hj
    have hsn := HS.out
    have hj0 : (0 : Int) ≤ (j : Int) := by omega
    by_cases hlt : j < nW
    · rcases HR.out with e0 | ⟨ga, gc, e0, hcell⟩
      · omega
      cases e0
      have hcj := hT.cell (HTC.out.cell (hcell j hlt) (by simp)) (by simp)
      have hwj := HWD.out j hlt
      have hsj' : sumL l (j + 1) ≤ sumL l nW := sumL_le l hlt
      have hnx : sumL l (j + 1) = sumL l j + (10 + (l j).length) := rfl
      obtain ⟨aj, cj, ej⟩ : ∃ a c, u j = .slice a (l j).length c := by
        rcases hwj with ⟨e, e'⟩ | ⟨a, c, e, _⟩
        · exact ⟨none, 0, by rw [e, e']; rfl⟩
        · exact ⟨_, _, e⟩
      rw [ej] at hcj
      have HNX : Hid (.int .i64 ((nP : Int) + (nR : Int) + (sumL l j : Int) + (10 + ((l j).length : Int))) = Value.int .i64 ((nP : Int) + (nR : Int) + (sumL l (j + 1) : Int))) := Lib.hid (by rw [hnx]; congr 1; omega)
      have hb1 : ((l j).length : Int) ≤ 40000000 := by omega
      have hb0 : (0 : Int) ≤ ((l j).length : Int) := by omega
      have hq1 : (sumL l j : Int) ≤ 40000000 := by omega
      have hq0 : (0 : Int) ≤ (sumL l j : Int) := by omega
      have hj1 : (j : Int) < (nW : Int) := by omega
      have HLT := Lib.hid hlt
      have HT := Lib.hid hT
      clear hcell hwj hsj hsj' hsn hnx hT hlt hj ej
      generalize (sumL l j : Int) = q at HNX hq1 hq0
      generalize (l j).length = y at hcj HNX hb1 hb0
      go_wp2
      refine ⟨⟨j + 1, HLT.out, by simp, HNX.out, by repeat (first | exact HT.out | apply Frm.Turn.drewN | apply Frm.Turn.drew)⟩, ?_⟩
      have := HLT.out
      simp [intOf]; omega
    · obtain rfl : j = nW := by omega
      have c1 := hT.cell ((Frm.cell_row _ _ 1 _ _ _ HC.out).trans rfl) (by simp)
      have c0 := hT.cell ((Frm.cell_row _ _ 0 _ _ _ HC.out).trans rfl) (by simp)
      have c3 := hT.cell ((Frm.cell_row _ _ 3 _ _ _ HC.out).trans rfl) (by simp)
      have HT := Lib.hid (HTC.out.trans hT (by simp))
      have hq1 : (sumL l j : Int) ≤ 40000000 := by omega
      have hq0 : (0 : Int) ≤ (sumL l j : Int) := by omega
      have hgr : greatB nP nR nL j l = (decide (500 < (nP : Int) + (nR : Int) + (sumL l j : Int)) || decide (8 < (nL : Int)) || decide ((j : Int) = 0) || decide ((nR : Int) = 0)) := by
        unfold greatB
        congr 1
        congr 1
        congr 1
        all_goals (apply decide_eq_decide.2; omega)
      have HGR := Lib.hid hgr
      clear hT hlt hj hsj hsn hgr
      generalize (sumL l j : Int) = q at HGR hq1 hq0
      by_cases g1 : 500 < (nP : Int) + (nR : Int) + q
      · go_wp2
        go_ret
        refine ⟨by rw [HGR.out]; simp [g1], HT.out⟩
      · by_cases g2 : 8 < (nL : Int)
        · go_wp2
          go_ret
          refine ⟨by rw [HGR.out]; simp [g1, g2], HT.out⟩
        · clear HR HWD HS
          go_wp2
          all_goals go_ret
          all_goals try (rename_i h0; subst h0)
          all_goals have e1 : decide (500 < (nP : Int) + (nR : Int) + q) = false := decide_eq_false (by omega)
          all_goals have e2 : decide (8 < (nL : Int)) = false := decide_eq_false (by omega)
          all_goals refine ⟨?_, HT.out⟩
          all_goals rw [HGR.out, e1, e2, Bool.false_or, Bool.false_or]
          all_goals first
            | rfl
            | simp_all
end Hld
end Go.Proofs.YtpajafecodkndaaGreat
