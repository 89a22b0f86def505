/- Writing a word that is none of noughts: the walk. -/
import Derived.Test.YtjginajnegahdaaDoorDraftWrite
import Derived.Deep.Quiet
import Derived.Deep.QuietTactic
import Derived.BigQuiet
set_option linter.unusedVariables false
set_option linter.unusedSimpArgs false
namespace Go.Proofs.YtjginajnegahdaaDoor
namespace Drf
open Go.RowKit Go.Maps

def Renews (D : Dr) (N tree : Nat) (key : Int) : Prop := ∀ j, j < 4 → ∀ p r, (D.downTo tree key j).2 = p :: r → ∀ (W : World) (b : Nat) (S : Sh), DAt W b S (D.downTo tree key j).1 (N + j) →
  Calls Tryd.prog 72 #[.pointer (some ⟨b, 0, none⟩), .pointer (some (adr b S.B p)), .int .i64 j] W (RenewEnd W b S ((D.downTo tree key j).1.renew p j) (N + j + 1))
theorem quiet_at {P : Program} {f : FuncId} {args : Array Value} {w : World} {n : Nat} {v : Value}
    (h : Calls P f args (w.drewN n) fun e w' => e = .returned v ∧ w.drewN n = w') : Calls P f args (w.drewN n) fun e w'' => e = .returned v ∧ ∃ m, w'' = w.drewN m :=
  h.mono fun _ _ ⟨he, hm⟩ => ⟨he, n, hm.symm⟩
def pathO : Obj := .cells #[.pointer none, .pointer none, .pointer none, .pointer none] 160
theorem path_blk {W : World} {g : Nat} {q0 q1 q2 q3 : Option Addr} {t : TypeId} (h : W.heap[g]? = some (.cells #[.pointer q0, .pointer q1, .pointer q2, .pointer q3] t (0, 0))) :
    W.cell? ⟨g, 0, none⟩ = some (.pointer q0) ∧ W.cell? ⟨g, 1, none⟩ = some (.pointer q1) ∧ W.cell? ⟨g, 2, none⟩ = some (.pointer q2) ∧ W.cell? ⟨g, 3, none⟩ = some (.pointer q3) := by
  have hc := fun i => Frm.cell_row W g i _ _ _ h
  exact ⟨(hc 0).trans rfl, (hc 1).trans rfl, (hc 2).trans rfl, (hc 3).trans rfl⟩
set_option maxRecDepth 100000 in
set_option maxHeartbeats 8000000 in
theorem write_new {w : World} {b : Nat} {S : Sh} {D : Dr} {N : Nat} (h : DAt w b S D N) (tree : Nat) (ht : tree < 3) (key : Int) (hk0 : 0 ≤ key) (hk1 : key ≤ 255) (x : Int) (hx : W64 x) (hx0 : x ≠ 0) (hren : Renews D N tree key) :
    Calls Tryd.prog 68 #[.pointer (some ⟨b, 0, none⟩), .int .i64 tree, .int .i64 key, .int .u64 x] w fun e w' => e = .returned (.tuple #[]) ∧ ∃ S', Aft w b S (D.write tree key x) (N + 4) S' w' := by
  have hbl := h.lt b (by simp [foot])
  have hwf := h.wf
  have h0 : WrRel w b w.heap.size S D N tree key 0 S (none, tree) [] (w.alloc pathO) := by
    have hA : Aft w b S D N S (w.alloc pathO) := (Aft.refl h).still ((Frm.Turn.refl [] w).alloc _)
    exact ⟨hA, rfl, heap_alloc_new w pathO, fun hm => Nat.lt_irrefl _ (h.lt _ hm), Nat.le_refl _⟩
  have t0 : (0 : Int) ≤ tree := by omega
  have t1 : (tree : Int) < 3 := by omega
  have H0 := Lib.hid h0
  have HW := Lib.hid hwf
  have HRN := Lib.hid hren
  clear h h0 hwf hren
  go_enter Tryd.func68, Tryd.ntmps68
  go_wp2
  obtain ⟨pb, HPB⟩ : ∃ pb, Hid (pb = w.heap.size) := ⟨_, Lib.hid rfl⟩
  rw [← HPB.out] at H0 ⊢
  have e1 : (adr b S.B (none, tree)) = ⟨b, 1 + tree * 2, none⟩ := by simp only [adr]; congr 1; omega
  have h0 := H0.out
  unfold pathO at h0
  generalize World.alloc _ _ = W0 at h0 ⊢
  clear H0
  go_loopw [9, 17] (fun v i wr => ∃ j : Nat, j ≤ 4 ∧ i = .int .i64 j ∧ ∃ S' p r, v = .pointer (some (adr b S'.B p)) ∧ WrRel w b pb S D N tree key j S' p r wr) (fun _ i _ => 4 - (intOf i).toNat)
  case atStart => exact ⟨0, by omega, rfl, S, (none, tree), [], by rw [e1], h0⟩
  case round =>
    obtain ⟨j, hj, rfl, S', p, r, rfl, hF⟩ := hrel
    by_cases hlt : j < 4
    · obtain ⟨g, o, ha, ha1⟩ := adr_form b S'.B p
      rw [ha]
      have hR := HRN.out j hlt p r hF.ps wr b S' hF.aft.at_
      rw [ha] at hR
      have HR := Lib.hid hR
      have HF := Lib.hid hF
      have HA := Lib.hid ha
      have HA1 := Lib.hid ha1
      have HD := Lib.hid (fun W => dig_any key j hk0 hk1 (by omega) W)
      have hd0 : (0 : Int) ≤ (dig key j : Nat) := by omega
      have hd1 : ((dig key j : Nat) : Int) < 4 := by have := dig_lt key j; omega
      have hj0 : (0 : Int) ≤ j := by omega
      have hj1 : (j : Int) < 4 := by omega
      clear hF hR ha ha1
      go_upto_region 6 with (go_at_call 72; (with_reducible refine (HR.out).mono ?_); rintro e w2 ⟨rfl, S2, X, hA, hB⟩; obtain ⟨⟨⟨v, c0⟩, f0, z0⟩, c1, hN⟩ := HF.out.step HW.out ht hlt hA hB HA.out HA1.out; have HN := Lib.hid hN; clear hA hB hN)
      go_upto_region 7 with fail
      obtain ⟨n, hn⟩ : ∃ n, n = S2.B.getD (((D.downTo tree key j).1.renew p j).kidAt p) 0 := ⟨_, rfl⟩
      rw [← hn] at c1
      have HNN := Lib.hid hn
      clear hn
      go_quiet (first | (go_at_call 67; exact quiet_at (HD.out _)))
      go_wp2
      exact ⟨⟨j + 1, by omega, by simp, S2, _, _, by rw [HNN.out]; simp [adr, Nat.mul_comm], HN.out.drewN _⟩, by simp [intOf]; omega⟩
    · obtain rfl : j = 4 := by omega
      obtain ⟨g, o, ha, ha1⟩ := adr_form b S'.B p
      rw [ha]
      obtain ⟨⟨⟨v, c0⟩, f0⟩, hA, ⟨q0, q1, q2, q3, rfl, hpth⟩, hlive⟩ := hF.fin HW.out ht hx hx0 ha
      have hP : ∀ q, q ∈ [q3, q2, q1, q0] → ∀ lv : Int, Calls Tryd.prog 73 #[.pointer (some ⟨b, 0, none⟩), .pointer (some (adr b S'.B q)), .int .i64 lv] (wr.setCell ⟨g, o, none⟩ (.int .u64 x)) fun e w' => e = .returned (.tuple #[]) ∧ wr.setCell ⟨g, o, none⟩ (.int .u64 x) = w' := fun q hq lv => by
        obtain ⟨h1, k, h2, h3⟩ := hlive q hq
        exact prune_keep hA.at_ h1 h2 h3 lv
      have HP3 := Lib.hid (hP q3 (by simp))
      have HP2 := Lib.hid (hP q2 (by simp))
      have HP1 := Lib.hid (hP q1 (by simp))
      have HP0 := Lib.hid (hP q0 (by simp))
      have HAF := Lib.hid hA
      obtain ⟨d0, d1, d2, d3⟩ := path_blk hpth
      clear hF hlive hP hA ha ha1 hpth
      go_upto_region 10 with fail
      generalize wr.setCell _ _ = W5 at HP3 HP2 HP1 HP0 HAF d0 d1 d2 d3 ⊢
      clear c0 f0
      generalize adr b S'.B q0 = a0 at HP0 d0
      generalize adr b S'.B q1 = a1 at HP1 d1
      generalize adr b S'.B q2 = a2 at HP2 d2
      generalize adr b S'.B q3 = a3 at HP3 d3
      go_wp2_with fail
      go_loopw [11] (fun i wr => ∃ z : Int, (z = -1 ∨ z = 0 ∨ z = 1 ∨ z = 2 ∨ z = 3) ∧ i = .int .i64 z ∧ wr = W5) (fun i _ => (intOf i + 1).toNat)
      case atStart => exact ⟨3, by simp, rfl, rfl⟩
      case round =>
        obtain ⟨z, hz, rfl, rfl⟩ := hrel
        rcases hz with rfl | rfl | rfl | rfl | rfl
        · go_wp2
          go_end0
          exact ⟨rfl, S', HAF.out⟩
        all_goals
          go_wp2_with (first
            | (go_at_call 73; (with_reducible refine (HP0.out _).mono ?_); rintro e w4 ⟨rfl, rfl⟩)
            | (go_at_call 73; (with_reducible refine (HP1.out _).mono ?_); rintro e w4 ⟨rfl, rfl⟩)
            | (go_at_call 73; (with_reducible refine (HP2.out _).mono ?_); rintro e w4 ⟨rfl, rfl⟩)
            | (go_at_call 73; (with_reducible refine (HP3.out _).mono ?_); rintro e w4 ⟨rfl, rfl⟩))
          refine ⟨?_, by simp [intOf]⟩
          repeat apply Exists.intro
          refine ⟨?_, rfl⟩
          refine ⟨_, ?_, rfl, trivial⟩
          simp
end Drf
end Go.Proofs.YtjginajnegahdaaDoor
