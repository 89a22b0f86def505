/- The steps that the laws of layer 6 are asked over; are they too many. -/
import Derived.Test.YtmodanjblbaedaaDoorModelFirst
set_option linter.unusedVariables false
set_option linter.unusedSimpArgs false
namespace Go.Proofs.YtmodanjblbaedaaDoor
namespace Mdl
open Go.RowKit Go.Maps Go.Shelf Go.Lib Go.Sort

structure Stp where
  kind : Int
  at_ : Int
  n : Int
  o : Opn
def Stp.cells (s : Stp) : List Value := [.int .i64 s.kind, .int .i64 s.at_, .int .u16 s.n, .int .i64 s.o.c, .int .i64 s.o.k, .int .i64 s.o.a, .int .i64 s.o.b]
structure Stp.Ok (s : Stp) : Prop where
  kind : I64 s.kind
  at_ : I64 s.at_
  n : 0 ≤ s.n ∧ s.n ≤ 65535
  c : I64 s.o.c
  k : I64 s.o.k
  a : I64 s.o.a
  b : I64 s.o.b
def StepsAt (w : World) (bl off len : Nat) : Prop := ∀ i, i < len → ∃ s : Stp, s.Ok ∧ ∀ j v, s.cells[j]? = some v → w.cell? ⟨bl, off + i * 7 + j, none⟩ = some v
def Steps (w : World) (a0 : Option Addr) (len : Nat) : Prop := 0 < len → ∃ bl off, a0 = some ⟨bl, off, none⟩ ∧ StepsAt w bl off len
theorem Steps.step {w w' : World} {a0 : Option Addr} {len : Nat} (h : Steps w a0 len) (hT : Frm.Turn [] w w') : Steps w' a0 len := fun hp => by
  obtain ⟨bl, off, e, hs⟩ := h hp
  refine ⟨bl, off, e, fun i hi => ?_⟩
  obtain ⟨s, hk, hc⟩ := hs i hi
  exact ⟨s, hk, fun j v hv => hT.cell (hc j v hv) (by simp)⟩
/-- One step's cells. -/
theorem steps_one {w : World} {a0 : Option Addr} {len : Nat} (h : Steps w a0 len) {k : Nat} (hk : k < len) : ∃ bl off, a0 = some ⟨bl, off, none⟩ ∧ ∃ s : Stp, s.Ok ∧ w.cell? ⟨bl, off + k * 7, none⟩ = some (.int .i64 s.kind) ∧ w.cell? ⟨bl, off + k * 7 + 1, none⟩ = some (.int .i64 s.at_) ∧ w.cell? ⟨bl, off + k * 7 + 2, none⟩ = some (.int .u16 s.n) ∧ w.cell? ⟨bl, off + k * 7 + 3, none⟩ = some (.int .i64 s.o.c) ∧ w.cell? ⟨bl, off + k * 7 + 4, none⟩ = some (.int .i64 s.o.k) ∧ w.cell? ⟨bl, off + k * 7 + 5, none⟩ = some (.int .i64 s.o.a) ∧ w.cell? ⟨bl, off + k * 7 + 6, none⟩ = some (.int .i64 s.o.b) := by
  obtain ⟨bl, off, e, hs⟩ := h (by omega)
  obtain ⟨s, ok, hc⟩ := hs k hk
  exact ⟨bl, off, e, s, ok, hc 0 _ rfl, hc 1 _ rfl, hc 2 _ rfl, hc 3 _ rfl, hc 4 _ rfl, hc 5 _ rfl, hc 6 _ rfl⟩
theorem cell_lt {w : World} {b o : Nat} {v : Value} (h : w.cell? ⟨b, o, none⟩ = some v) : b < w.heap.size := World.block_lt_of_cell? w _ h

def GreatEnd (w : World) (e : Ending) (w' : World) : Prop := ∃ c : Bool, e = .returned (.bool c) ∧ Frm.Turn [] w w'
set_option maxRecDepth 10000 in
set_option maxHeartbeats 2000000 in
theorem great_any {w : World} {a0 : Option Addr} {len cap : Nat} (h : Steps w a0 len) (hl : len ≤ 9223372036854775807) :
    Calls Tryd.prog 7 #[.slice a0 len cap] w (GreatEnd w) := by
  have H := Lib.hid h
  clear h
  go_enter Tryd.func7, Tryd.ntmps7
  go_wp2
  go_loopw [3, 5, 8] (fun n _ i wr => ∃ k : Nat, ∃ t : Int, k ≤ len ∧ i = .int .i64 k ∧ n = .int .i64 t ∧ 0 ≤ t ∧ t ≤ 3000 ∧ Frm.Turn [] w wr) (fun _ _ i _ => len - (intOf i).toNat)
  case atStart => exact ⟨0, 0, Nat.zero_le _, rfl, rfl, by omega, by omega, Frm.Turn.refl _ _⟩
  case round =>
    obtain ⟨k, t, hk, rfl, rfl, t0, t1, hT⟩ := hrel
    have HT := Lib.hid hT
    clear hT
    by_cases hlt : k < len
    · obtain ⟨bl, off, rfl, s, ok, d0, d1, d2, d3, d4, d5, d6⟩ := steps_one (H.out.step HT.out) hlt
      have hbl := cell_lt d0
      obtain ⟨n0, n1⟩ := ok.n
      have m0 : 0 ≤ s.n % 300 := by omega
      have m1 : s.n % 300 ≤ 299 := by omega
      obtain ⟨r, hr⟩ : ∃ r, r = s.n % 300 := ⟨_, rfl⟩
      by_cases hg : 3000 < t + (1 + s.n % 300)
      · go_wp2
        go_ret
        exact ⟨true, rfl, HT.out.alloc _⟩
      · go_wp2
        go_roundw
        case rel => exact ⟨k + 1, _, by omega, by go_num, rfl, by omega, by omega, HT.out.alloc _⟩
        case measure => simp [intOf]; omega
    · obtain rfl : k = len := by omega
      go_wp2
      go_ret
      exact ⟨_, rfl, HT.out⟩
end Mdl
end Go.Proofs.YtmodanjblbaedaaDoor
