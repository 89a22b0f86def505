/- The floor in a tree of which nothing is found. -/
import Derived.Test.YtjginajnegahdaaDoorDraftQueue
set_option linter.unusedVariables false
set_option linter.unusedSimpArgs false
namespace Go.Proofs.YtjginajnegahdaaDoor
namespace Drf
open Go.RowKit Go.Maps

set_option maxRecDepth 100000 in
set_option maxHeartbeats 4000000 in
/-- The floor in a tree of which nothing is found: a node is needed, or there is none. -/
theorem floor_bare {w : World} {b : Nat} {S : Sh} {D : Dr} {N : Nat} (h : DAt w b S D N) (k : Int) (hk0 : 0 ≤ k) (hk1 : k ≤ 255) (hn : ∀ key : Int, (D.find 0 key).1 = 0) :
    Calls Tryd.prog 42 #[.pointer (some ⟨b, 0, none⟩), .int .i64 k] w (OpEnd w b S N (D, D.floorAt (k + 1).toNat)) := by
  have HF := Lib.hid (fun W (hT : Frm.Turn [] w W) (key : Int) (a0 : 0 ≤ key) (a1 : key ≤ 255) => find0_any (h.step hT) key a0 a1)
  simp only [hn] at HF
  have H := Lib.hid (fun W (hT : Frm.Turn [] w W) => (Aft.refl (h.mono (Nat.le_add_right N 4))).still hT)
  have HT0 := Lib.hid ((Frm.Turn.refl [] w).alloc resO)
  have HB := Lib.hid (heap_alloc_new w resO)
  have HFL : Hid (∀ j : Nat, D.floorAt (j + 1) = if (D.find 0 (j : Int)).2 ≠ 0 then ((0, 0), (D.find 0 (j : Int)).2) else D.floorAt j) := Lib.hid fun j => by simp only [Dr.floorAt, hn]; simp
  unfold resO at HT0 HB
  clear h hn
  go_enter Tryd.func42, Tryd.ntmps42
  go_wp2_with fail
  generalize w.alloc _ = W0 at HT0 HB ⊢
  go_loopw [6] (fun i wr => ∃ j : Nat, (j : Int) ≤ k + 1 ∧ i = .int .i64 ((j : Int) - 1) ∧ D.floorAt (k + 1).toNat = D.floorAt j ∧ Frm.Turn [] W0 wr) (fun i _ => (intOf i + 1).toNat)
  case atStart => exact ⟨(k + 1).toNat, by omega, by congr 1; omega, rfl, Frm.Turn.refl [] W0⟩
  case round =>
    obtain ⟨j, hj, rfl, hE, hT⟩ := hrel
    cases j with
    | zero =>
      have HE := Lib.hid hE
      have HT1 := Lib.hid hT
      have t0 : decide ((0 : Int) ≤ ((0 : Nat) : Int) - 1) = false := by decide
      clear hE hT
      go_wp2_with (go_at_call 38; (with_reducible refine (none_any _).mono ?_); rintro e w1 ⟨rfl, hT⟩; have hTT := HT1.out.trans hT (by simp); obtain ⟨⟨n0, n1⟩, m0, m1⟩ := blk2 (hTT.keep HB.out (by simp)); have HB1 := Lib.hid (hTT.keep HB.out (by simp)); have HT2 := Lib.hid hTT; clear hT hTT)
      have r := blk2 (told_blk HB1.out (.int .i64 1) (.int .i64 0))
      exact bodyPost_ret (v := .tuple #[rv (1, 0), .int .u64 0]) (by simp [results, Tryd.results42, go_sem, r.1.1, r.1.2]) rfl ⟨by rw [HE.out]; rfl, S, H.out _ (((HT0.out.trans HT2.out (by simp)).setCell (p := ⟨w.heap.size, 0, none⟩) (.inr (Nat.le_refl _)) _).setCell (p := ⟨w.heap.size, 1, none⟩) (.inr (Nat.le_refl _)) _)⟩
    | succ j =>
      rw [show ((j + 1 : Nat) : Int) - 1 = (j : Int) by omega]
      obtain ⟨y, hy⟩ : ∃ y, y = (D.find 0 (j : Int)).2 := ⟨_, rfl⟩
      have hFj := fun W hT => HF.out W hT (j : Int) (by omega) (by omega)
      rw [← hy] at hFj
      have hE2 := HFL.out j
      rw [← hy] at hE2
      rw [hE2] at hE
      have HFj := Lib.hid hFj
      have HT1 := Lib.hid hT
      have t0 : decide ((0 : Int) ≤ (j : Int)) = true := by simp
      clear hFj hE2 hT hy
      by_cases hy0 : y = 0
      · rw [if_neg (by simpa using hy0)] at hE
        have HE := Lib.hid hE
        subst hy0
        clear hE
        go_wp2_with (go_at_call 57; (with_reducible refine (HFj.out _ (HT0.out.trans HT1.out (by simp))).mono ?_); rintro e w1 ⟨rfl, hT⟩; have HT2 := Lib.hid (HT1.out.trans hT (by simp)); clear hT)
        refine ⟨?_, ?_⟩
        · exact ⟨j, by omega, rfl, HE.out, HT2.out⟩
        · simp [intOf]
      · rw [if_pos hy0] at hE
        have HE := Lib.hid hE
        have t1 : (y != 0) = true := by simpa using hy0
        clear hE hy0
        go_wp2_with (go_at_call 57; (with_reducible refine (HFj.out _ (HT0.out.trans HT1.out (by simp))).mono ?_); rintro e w1 ⟨rfl, hT⟩; have hTT := HT1.out.trans hT (by simp); obtain ⟨⟨n0, n1⟩, m0, m1⟩ := blk2 (hTT.keep HB.out (by simp)); have HB1 := Lib.hid (hTT.keep HB.out (by simp)); have HT2 := Lib.hid hTT; clear hT hTT)
        have r := blk2 (told_blk HB1.out (.int .i64 0) (.int .i64 0))
        exact bodyPost_ret (v := .tuple #[rv (0, 0), .int .u64 y]) (by simp [results, Tryd.results42, go_sem, r.1.1, r.1.2]) rfl ⟨by rw [HE.out], S, H.out _ (((HT0.out.trans HT2.out (by simp)).setCell (p := ⟨w.heap.size, 0, none⟩) (.inr (Nat.le_refl _)) _).setCell (p := ⟨w.heap.size, 1, none⟩) (.inr (Nat.le_refl _)) _)⟩
end Drf
end Go.Proofs.YtjginajnegahdaaDoor
