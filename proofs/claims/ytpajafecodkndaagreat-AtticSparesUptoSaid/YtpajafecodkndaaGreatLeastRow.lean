/- The heap's own row of numbers (type row): what its five methods do, whoever calls them. -/
import Derived.Test.YtpajafecodkndaaGreatRows
import Derived.Test.YtpajafecodkndaaGreatLeastFrame
import Derived.WalkKit
import Derived.WalkSpells
import Derived.WalkLawsBesides
import Derived.Deep.QuietTactic
import Derived.BigQuiet
import Derived.Lib.Hide
set_option linter.unusedVariables false
set_option linter.unusedSimpArgs false
namespace Go.Proofs.YtpajafecodkndaaGreat
namespace Lst
open Go.RowKit

theorem wrapped (ats : Array TypeId) (ty : TypeId) (a : Addr) (s m : String) : Builtin.ssaWrapNilChk_ ats ty #[.pointer (some a), strVal s, strVal m] = pure (.pointer (some a)) := rfl
/-- What an interface value that holds a pointer to a row answers when it is asked for a method of the row's: the method, and the row that lies behind the pointer. -/
theorem method_at {f : Nat} {name : String} (n : Nat) (a : Addr) (v : Value) (w : World) (h : w.cell? a = some v)
    (hm : ((Tryz.prog.info? 231).bind fun i => (i.methods.find? (·.name == name)).map fun m => (m.path.toList, m.func)) = some ([], some (f, false))) :
    (method (n + 1) 231 (.pointer (some a)) name).run Tryz.prog w = .ok (f, v) w := by
  cases hi : Tryz.prog.info? 231 with
  | none => rw [hi] at hm; simp at hm
  | some i =>
    rw [hi] at hm
    simp only [Option.bind_some, Option.map_eq_some_iff, Prod.mk.injEq] at hm
    obtain ⟨m, h1, h2, h4⟩ := hm
    have hu : Tryz.prog.underlying 231 = some (.pointer 199) := by kernel_rfl
    have hu2 : ∃ e, Tryz.prog.underlying 199 = some (.slice e) := ⟨3, by kernel_rfl⟩
    obtain ⟨e, hu2⟩ := hu2
    have hp : m.path = #[] := Array.toList_eq_nil_iff.1 h2
    simp [method, typeInfo, hi, h1, hp, h4, follow, receiverAt, run_underlying hu, run_underlying hu2, Place.get, wrapped, asAddr, loadVar, isAgg, h]
theorem nil_len (n : Nat) (a : Addr) (w : World) : (nilAhead (n + 1) 231 (.pointer (some a)) "Len").run Tryz.prog w = .ok (some false) w := by kernel_rfl
theorem nil_less (n : Nat) (a : Addr) (w : World) : (nilAhead (n + 1) 231 (.pointer (some a)) "Less").run Tryz.prog w = .ok (some false) w := by kernel_rfl
theorem nil_swap (n : Nat) (a : Addr) (w : World) : (nilAhead (n + 1) 231 (.pointer (some a)) "Swap").run Tryz.prog w = .ok (some false) w := by kernel_rfl
theorem nil_push (n : Nat) (a : Addr) (w : World) : (nilAhead (n + 1) 231 (.pointer (some a)) "Push").run Tryz.prog w = .ok (some false) w := by kernel_rfl
theorem nil_pop (n : Nat) (a : Addr) (w : World) : (nilAhead (n + 1) 231 (.pointer (some a)) "Pop").run Tryz.prog w = .ok (some false) w := by kernel_rfl
theorem at_len (n : Nat) (a : Addr) (v : Value) (w : World) (h : w.cell? a = some v) : (method (n + 1) 231 (.pointer (some a)) "Len").run Tryz.prog w = .ok (228, v) w := method_at n a v w h (by kernel_rfl)
theorem at_less (n : Nat) (a : Addr) (v : Value) (w : World) (h : w.cell? a = some v) : (method (n + 1) 231 (.pointer (some a)) "Less").run Tryz.prog w = .ok (229, v) w := method_at n a v w h (by kernel_rfl)
theorem at_swap (n : Nat) (a : Addr) (v : Value) (w : World) (h : w.cell? a = some v) : (method (n + 1) 231 (.pointer (some a)) "Swap").run Tryz.prog w = .ok (230, v) w := method_at n a v w h (by kernel_rfl)
theorem at_push (n : Nat) (a : Addr) (w : World) : (method (n + 1) 231 (.pointer (some a)) "Push").run Tryz.prog w = .ok (232, .pointer (some a)) w := by kernel_rfl
theorem at_pop (n : Nat) (a : Addr) (w : World) : (method (n + 1) 231 (.pointer (some a)) "Pop").run Tryz.prog w = .ok (231, .pointer (some a)) w := by kernel_rfl

theorem less_any (r i j n c : Nat) (x y : Int) (w : World) (hi : i < n) (hj : j < n) (hn : n ≤ 65536)
    (hx : w.cell? ⟨r, i, none⟩ = some (.int .i64 x)) (hy : w.cell? ⟨r, j, none⟩ = some (.int .i64 y)) :
    Calls Tryz.prog 229 #[.slice (some ⟨r, 0, none⟩) n c, .int .i64 i, .int .i64 j] w
      fun e w' => e = .returned (.bool (decide (x < y))) ∧ ∃ k, w' = w.drewN k := by
  have h1 : (i : Int) < (n : Int) := by omega
  have h2 : (j : Int) < (n : Int) := by omega
  go_enter Tryz.func229, Tryz.ntmps229
  go_wp2
  go_quiet (fail)
  go_wp2
  go_ret
  exact ⟨rfl, _, rfl⟩

theorem len_any (v : Value) (a : Option Addr) (n c : Nat) (w : World) (hv : v = .slice a n c) :
    Calls Tryz.prog 228 #[v] w fun e w' => e = .returned (.int .i64 n) ∧ w = w' := by
  subst hv
  go_enter Tryz.func228, Tryz.ntmps228
  go_wp2
  go_ret
  exact ⟨rfl, rfl⟩

set_option maxHeartbeats 400000 in
theorem swap_any (r i j n c : Nat) (x y : Int) (w : World) (hi : i < n) (hj : j < n) (hn : n ≤ 65536)
    (hx : w.cell? ⟨r, i, none⟩ = some (.int .i64 x)) (hy : w.cell? ⟨r, j, none⟩ = some (.int .i64 y))
    (fi : w.frozen? ⟨r, i, none⟩ = false) (fj : w.frozen? ⟨r, j, none⟩ = false) :
    Calls Tryz.prog 230 #[.slice (some ⟨r, 0, none⟩) n c, .int .i64 i, .int .i64 j] w
      fun e w' => e = .returned (.tuple #[]) ∧ ∃ k, w' = ((w.setCell ⟨r, i, none⟩ (.int .i64 y)).setCell ⟨r, j, none⟩ (.int .i64 x)).drewN k := by
  have h1 : (i : Int) < (n : Int) := by omega
  have h2 : (j : Int) < (n : Int) := by omega
  obtain ⟨v', hy'⟩ := cell?_setCell_some (w := w) (p := ⟨r, i, none⟩) (x := .int .i64 y) (q := ⟨r, j, none⟩) (v := .int .i64 y) hy
  go_enter Tryz.func230, Tryz.ntmps230
  go_wp2
  go_region
  all_goals (go_end0; exact ⟨rfl, 1, rfl⟩)

theorem info_int : (Tryz.prog.info? 3).map (fun i => (i.zero, i.size, i.bytes)) = some (some (.int .i64 0), 1, 8) := by kernel_rfl
theorem under_row : Tryz.prog.underlying 199 = some (.slice 3) := by kernel_rfl

theorem assert_int (x : Int) (w : World) : (Instr.typeAssert (.iface 3 (.int .i64 x)) 20 3 false).run Tryz.prog w = .ok (.int .i64 x) w := by kernel_rfl

set_option maxHeartbeats 400000 in
theorem push_any (b off : Nat) (ao : Option Addr) (c : Nat) (xs : List Value) (x : Int) (w : World) (hb : b < w.heap.size) (hc : w.cell? ⟨b, off, none⟩ = some (.slice ao xs.length c)) (hf : w.frozen? ⟨b, off, none⟩ = false)
    (hown : w.ownsRow 0 3 1 (.slice ao xs.length c) xs.length xs) (hlen : xs.length ≤ 65536) (hne : (Value.slice ao xs.length c).ownBlock ≠ some b) :
    Calls Tryz.prog 232 #[.pointer (some ⟨b, off, none⟩), .iface 3 (.int .i64 x)] w
      fun e w' => e = .returned (.tuple #[]) ∧ ∃ ao' c' w1 k, w' = (w1.setCell ⟨b, off, none⟩ (.slice ao' (xs.length + 1) c')).drewN k ∧ w1.ownsRow 0 3 1 (.slice ao' (xs.length + 1) c') (xs.length + 1) (xs ++ [.int .i64 x]) ∧
        Frm.Turn (Value.slice ao xs.length c).ownBlock.toList w w1 ∧ ((Value.slice ao' (xs.length + 1) c').ownBlock = (Value.slice ao xs.length c).ownBlock ∨ ∃ g, (Value.slice ao' (xs.length + 1) c').ownBlock = some g ∧ w.heap.size ≤ g) := by
  obtain ⟨i0, hi, hz0, hz1, hz2⟩ := info_parts info_int
  have has := assert_int
  have hne' : some (⟨b, off, none⟩ : Addr).block ≠ (Value.slice ao xs.length c).ownBlock := fun e => hne e.symm
  go_enter Tryz.func232, Tryz.ntmps232
  go_wp2
  go_region_law (refine Frm.step_append_own rfl (.tmp 7) (.tmp 10) 199 rfl 3 i0 (.int .i64 0) 1 8 under_row hi hz0 hz1 hz2 rfl (by decide) 0 (.slice ao xs.length c) xs.length xs rfl (hown.alloc _) ⟨w.heap.size, 0, none⟩ 1 1 [.int .i64 x] rfl rfl (cell_one_new _ _ _) (ints_oneCell .i64 [x]) (by unfold maxLen; omega) (by omega) (by simp) ?_; intro v' w1 hown1 hgrow1 hloc1; obtain ⟨ao', c', rfl⟩ := Frm.row_form hown1; have hc1 := hgrow1.cell (a := ⟨b, off, none⟩) ((World.cell?_alloc_lt _ _ _ hb).trans hc) hne'; have hf1 := (World.frozen?_of_block (hgrow1.block b (by simp; omega) hne')).trans ((World.frozen?_alloc_old _ _ _ (Nat.ne_of_lt hb)).trans hf))
  all_goals (go_end0)
  all_goals exact ⟨rfl, ao', c', w1, 0, rfl, hown1, (((Frm.Turn.refl _ _).alloc _).drew).trans (Frm.Turn.of_grown hgrow1) (fun k hk => Or.inl hk), hloc1.imp id (fun h => ⟨_, h, by simp⟩)⟩

set_option maxHeartbeats 400000 in
theorem pop_any (b off g n c : Nat) (x : Int) (w : World) (hc : w.cell? ⟨b, off, none⟩ = some (.slice (some ⟨g, 0, none⟩) (n + 1) c)) (hf : w.frozen? ⟨b, off, none⟩ = false)
    (hx : w.cell? ⟨g, n, none⟩ = some (.int .i64 x)) (hlen : n ≤ 65536) (hcap : n + 1 ≤ c) :
    Calls Tryz.prog 231 #[.pointer (some ⟨b, off, none⟩)] w
      fun e w' => e = .returned (.iface 3 (.int .i64 x)) ∧ w' = w.setCell ⟨b, off, none⟩ (.slice (some ⟨g, 0, none⟩) n c) := by
  have h0 : ((n : Int) + 1 == 0) = false := beq_eq_false_iff_ne.2 (by omega)
  go_enter Tryz.func231, Tryz.ntmps231
  go_wp2
  go_ret
  exact ⟨rfl, rfl⟩
end Lst
end Go.Proofs.YtpajafecodkndaaGreat
