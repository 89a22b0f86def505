/- What 'first' answers, and the two tests that it is handed: contracts of the calls. -/
import Derived.Test.YtlfejjegegdbnaaDoorOpsRead
set_option linter.unusedVariables false
set_option linter.unusedSimpArgs false
namespace Go.Proofs.YtlfejjegegdbnaaDoor
namespace Ops
open Go.RowKit Go.Lib

/-- What 'first' hands back. -/
def firstV : Option Nat → Value
  | some i => .tuple #[.int .i64 i, .bool true]
  | none => .tuple #[.int .i64 0, .bool false]
/-- Ahead of a round: nothing was found so far. -/
def FirstAt (P : Nat → Bool) (cnt : Nat) (W : World) (i : Value) (wr : World) : Prop := ∃ k : Nat, k ≤ cnt ∧ i = .int .i64 k ∧ find P (cnt - k) k = find P cnt 0 ∧ Frm.Turn [] W wr
theorem find_here (P : Nat → Bool) (n k : Nat) (h : k < n) (hp : P k = true) : find P (n - k) k = some k := by
  obtain ⟨m, hm⟩ : ∃ m, n - k = m + 1 := ⟨n - k - 1, by omega⟩
  rw [hm]; unfold find; rw [if_pos hp]
theorem find_next (P : Nat → Bool) (n k : Nat) (h : k < n) (hp : P k = false) : find P (n - k) k = find P (n - (k + 1)) (k + 1) := by
  obtain ⟨m, hm⟩ : ∃ m, n - k = m + 1 := ⟨n - k - 1, by omega⟩
  rw [hm, show n - (k + 1) = m from by omega]; conv => lhs; unfold find
  rw [if_neg (by rw [hp]; decide)]
theorem find_end (P : Nat → Bool) (n k : Nat) (h : n ≤ k) : find P (n - k) k = none := by
  rw [show n - k = 0 from by omega]; rfl

set_option maxRecDepth 100000 in
theorem closeO_any (i : Nat) (g : Nat) (n : List UInt8) (w : World) (hk : Kn w) (hi : i < 15) (hn : w.cell? ⟨g, 0, none⟩ = some (.string ⟨n.toArray⟩)) :
    Calls Tryd.prog 32 #[.int .i64 i, .pointer (some ⟨g, 0, none⟩)] w fun e w' => e = .returned (.bool (opT.nm i == n)) ∧ Frm.Turn [] w w' := by
  obtain ⟨h0, _, _, _⟩ := hk.ops i hi
  rw [show 4 * i = i * 4 from by omega] at h0
  have t3 : (i : Int) < 15 := by omega
  clear hk
  go_enter Tryd.func32, Tryd.ntmps32
  go_wp2
  go_quiet (fail)
  go_wp2
  go_ret
  exact ⟨rfl, (Frm.Turn.refl [] w).drewN _⟩

set_option maxRecDepth 100000 in
set_option maxHeartbeats 1000000 in
theorem closeO_first (g : Nat) (n : List UInt8) (w : World) (hk : Kn w) (hn : w.cell? ⟨g, 0, none⟩ = some (.string ⟨n.toArray⟩)) :
    Calls Tryd.prog 31 #[.int .i64 15, .func (.func 32) #[] #[.pointer (some ⟨g, 0, none⟩)]] w fun e w' => e = .returned (firstV (opT.find n)) ∧ Frm.Turn [] w w' := by
  have HF := Lib.hid (fun (i : Nat) (hi : i < 15) W (hT : Frm.Turn [] w W) => closeO_any i g n W (hk.turn hT) hi (hT.cell hn (by simp)))
  have HW : Hid (opT.find n = find (fun i => opT.nm i == n) 15 0) := Lib.hid (by
    have e : (fun i => decide (opT.nm i = n)) = (fun i => opT.nm i == n) := by funext i; rw [Bool.eq_iff_iff]; simp
    unfold Tab.find
    rw [e]; rfl)
  clear hk hn
  go_enter Tryd.func31, Tryd.ntmps31
  go_wp2
  go_loopw [8] (fun i wr => FirstAt (fun i => opT.nm i == n) 15 w i wr) (fun i _ => (16 - RowKit.intOf i).toNat)
  case atStart => exact ⟨0, by omega, rfl, rfl, Frm.Turn.refl _ _⟩
  case round =>
    obtain ⟨k, hk3, rfl, hf, hT⟩ := hrel
    have HTr := Lib.hid hT
    have HFk := Lib.hid hf
    clear hT hf
    by_cases hlt : k < 15
    · have HC := Lib.hid (HF.out k hlt wr HTr.out)
      cases hb : (opT.nm k == n)
      · have HB := Lib.hid hb
        rw [hb] at HC
        clear hb
        go_wp2_with (go_at_call 32; (with_reducible refine (HC.out).mono ?_); rintro e w1 ⟨rfl, hT1⟩; have HT1 := Lib.hid (HTr.out.trans hT1 (by simp)); clear hT1)
        go_roundw
        case rel => exact ⟨k + 1, by omega, by go_num, by rw [← HFk.out, find_next _ _ _ hlt HB.out], HT1.out⟩
        case measure => simp [RowKit.intOf]; omega
      · have HB := Lib.hid hb
        rw [hb] at HC
        clear hb
        go_wp2_with (go_at_call 32; (with_reducible refine (HC.out).mono ?_); rintro e w1 ⟨rfl, hT1⟩; have HT1 := Lib.hid (HTr.out.trans hT1 (by simp)); clear hT1)
        go_ret2
        exact ⟨by rw [HW.out, ← HFk.out, find_here _ _ _ hlt HB.out]; rfl, HT1.out⟩
    · go_wp2
      go_ret2
      exact ⟨by rw [HW.out, ← HFk.out, find_end _ _ _ (by omega)]; rfl, HTr.out⟩

set_option maxRecDepth 100000 in
theorem closeR_any (i : Nat) (g : Nat) (n : List UInt8) (w : World) (hk : Kn w) (hi : i < 6) (hn : w.cell? ⟨g, 0, none⟩ = some (.string ⟨n.toArray⟩)) :
    Calls Tryd.prog 37 #[.int .i64 i, .pointer (some ⟨g, 0, none⟩)] w fun e w' => e = .returned (.bool (respT.nm i == n)) ∧ Frm.Turn [] w w' := by
  obtain ⟨h0, _, _, _⟩ := hk.resps i hi
  rw [show 4 * i = i * 4 from by omega] at h0
  have t3 : (i : Int) < 6 := by omega
  clear hk
  go_enter Tryd.func37, Tryd.ntmps37
  go_wp2
  go_quiet (fail)
  go_wp2
  go_ret
  exact ⟨rfl, (Frm.Turn.refl [] w).drewN _⟩

set_option maxRecDepth 100000 in
set_option maxHeartbeats 1000000 in
theorem closeR_first (g : Nat) (n : List UInt8) (w : World) (hk : Kn w) (hn : w.cell? ⟨g, 0, none⟩ = some (.string ⟨n.toArray⟩)) :
    Calls Tryd.prog 31 #[.int .i64 6, .func (.func 37) #[] #[.pointer (some ⟨g, 0, none⟩)]] w fun e w' => e = .returned (firstV (respT.find n)) ∧ Frm.Turn [] w w' := by
  have HF := Lib.hid (fun (i : Nat) (hi : i < 6) W (hT : Frm.Turn [] w W) => closeR_any i g n W (hk.turn hT) hi (hT.cell hn (by simp)))
  have HW : Hid (respT.find n = find (fun i => respT.nm i == n) 6 0) := Lib.hid (by
    have e : (fun i => decide (respT.nm i = n)) = (fun i => respT.nm i == n) := by funext i; rw [Bool.eq_iff_iff]; simp
    unfold Tab.find
    rw [e]; rfl)
  clear hk hn
  go_enter Tryd.func31, Tryd.ntmps31
  go_wp2
  go_loopw [8] (fun i wr => FirstAt (fun i => respT.nm i == n) 6 w i wr) (fun i _ => (7 - RowKit.intOf i).toNat)
  case atStart => exact ⟨0, by omega, rfl, rfl, Frm.Turn.refl _ _⟩
  case round =>
    obtain ⟨k, hk3, rfl, hf, hT⟩ := hrel
    have HTr := Lib.hid hT
    have HFk := Lib.hid hf
    clear hT hf
    by_cases hlt : k < 6
    · have HC := Lib.hid (HF.out k hlt wr HTr.out)
      cases hb : (respT.nm k == n)
      · have HB := Lib.hid hb
        rw [hb] at HC
        clear hb
        go_wp2_with (go_at_call 37; (with_reducible refine (HC.out).mono ?_); rintro e w1 ⟨rfl, hT1⟩; have HT1 := Lib.hid (HTr.out.trans hT1 (by simp)); clear hT1)
        go_roundw
        case rel => exact ⟨k + 1, by omega, by go_num, by rw [← HFk.out, find_next _ _ _ hlt HB.out], HT1.out⟩
        case measure => simp [RowKit.intOf]; omega
      · have HB := Lib.hid hb
        rw [hb] at HC
        clear hb
        go_wp2_with (go_at_call 37; (with_reducible refine (HC.out).mono ?_); rintro e w1 ⟨rfl, hT1⟩; have HT1 := Lib.hid (HTr.out.trans hT1 (by simp)); clear hT1)
        go_ret2
        exact ⟨by rw [HW.out, ← HFk.out, find_here _ _ _ hlt HB.out]; rfl, HT1.out⟩
    · go_wp2
      go_ret2
      exact ⟨by rw [HW.out, ← HFk.out, find_end _ _ _ (by omega)]; rfl, HTr.out⟩
end Ops
end Go.Proofs.YtlfejjegegdbnaaDoor
