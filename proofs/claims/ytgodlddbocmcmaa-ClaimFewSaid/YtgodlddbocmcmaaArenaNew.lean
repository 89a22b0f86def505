/- A new arena; Size and Tally and Words. -/
import Derived.Test.YtgodlddbocmcmaaArenaWord
set_option linter.unusedVariables false
set_option linter.unusedSimpArgs false
namespace Go.Proofs.Ytgodlddbocmcmaa
namespace Arn
open Go.RowKit Hp Go.Maps

theorem new_no (cap : Int) (w : World) (h : cap < 0 ∨ 60000 < cap) :
    Calls Try.prog 6 #[.int .i64 cap] w fun e w' => e = .returned (.tuple #[.pointer none, .int .i64 2]) ∧ w = w' := by
  rcases h with h | h
  · go_enter Try.func6, Try.ntmps6
    go_wp2
    go_ret2
    exact ⟨rfl, rfl⟩
  · have h0 : decide (cap < 0) = false := by simp; omega
    go_enter Try.func6, Try.ntmps6
    go_wp2
    go_ret2
    exact ⟨rfl, rfl⟩
theorem new_at {w w1 : World} {sb : Nat} {Fs : List Nat} (cap : Nat) (hc : cap ≤ 60000) (hs : Lst.StockAt w1 sb Fs ⟨65535, 0, []⟩) (hT : Frm.Turn [] w w1) (hf : ∀ k, k ∈ Fs → w.heap.size ≤ k) :
    ∃ M, ArAt ((w1.alloc (.map #[] 0)).alloc (.cells #[.int .i64 (cap : Int), .int .u64 0, .int .u64 0, .int .u64 0, .int .u64 0, .int .u64 0, .int .u64 0, .int .u64 0, .int .u64 0, .int .u64 0, .int .u64 0, .map (some w1.heap.size), .pointer (some ⟨sb, 0, none⟩), .int .i64 0, .int .i64 0, .int .i64 0, .int .i64 0, .int .i64 0, .int .i64 0, .int .i64 0, .int .i64 0, .int .i64 0] 56)) (w1.heap.size + 1) M (Ar.new cap) ∧ ∀ k, k ∈ M.foot (w1.heap.size + 1) → w.heap.size ≤ k := by
  have hsz := hT.size
  have hT2 : Frm.Turn [] w1 ((w1.alloc (.map #[] 0)).alloc (.cells #[.int .i64 (cap : Int), .int .u64 0, .int .u64 0, .int .u64 0, .int .u64 0, .int .u64 0, .int .u64 0, .int .u64 0, .int .u64 0, .int .u64 0, .int .u64 0, .map (some w1.heap.size), .pointer (some ⟨sb, 0, none⟩), .int .i64 0, .int .i64 0, .int .i64 0, .int .i64 0, .int .i64 0, .int .i64 0, .int .i64 0, .int .i64 0, .int .i64 0] 56)) := ((Frm.Turn.refl [] w1).alloc _).alloc _
  have hlt := hs.lt
  refine ⟨⟨w1.heap.size, sb, Fs, []⟩, ⟨new_ok hc, ?_, ⟨_, hs.turn hT2 (by simp), rfl, fun k => by rw [used_new]; rfl⟩, ⟨.map [], ?_, rfl, fun k => rfl, by simp⟩, ⟨rfl, by simp⟩, by simp, fun k hk => ?_⟩, fun k hk => ?_⟩
  · have := (MapKept.heap_alloc (w1.alloc (.map #[] 0)) (.cells #[.int .i64 (cap : Int), .int .u64 0, .int .u64 0, .int .u64 0, .int .u64 0, .int .u64 0, .int .u64 0, .int .u64 0, .int .u64 0, .int .u64 0, .int .u64 0, .map (some w1.heap.size), .pointer (some ⟨sb, 0, none⟩), .int .i64 0, .int .i64 0, .int .i64 0, .int .i64 0, .int .i64 0, .int .i64 0, .int .i64 0, .int .i64 0, .int .i64 0] 56)).1
    rw [World.size_alloc] at this
    rw [this]
    simp [Ar.cells, Ar.new, u64s, used, List.replicate]
  · exact (World.ownsMap_made w1 Try.prog 32 hdr).alloc _
  · have := hlt k hk
    simp; omega
  · simp [Mem.foot] at hk
    rcases hk with rfl | rfl | hk
    · omega
    · omega
    · exact hf k hk
theorem new_yes (cap : Nat) (w : World) (hc : cap ≤ 60000) :
    Calls Try.prog 6 #[.int .i64 (cap : Int)] w fun e w' => ∃ b M, e = .returned (.tuple #[.pointer (some ⟨b, 0, none⟩), .int .i64 0]) ∧ ArAt w' b M (Ar.new cap) ∧ (∀ k, k ∈ M.foot b → w.heap.size ≤ k) ∧ Frm.Turn [] w w' := by
  have h0 : decide ((cap : Int) < 0) = false := by simp
  have h1 : decide (60000 < (cap : Int)) = false := by simp; omega
  have hmm := @run_makeMap Try.prog
  go_enter Try.func6, Try.ntmps6
  go_wp2_with fail
  refine (Lst.new_yes 65535 _ (by omega)).mono ?_
  rintro e w1 ⟨sb, Fs, rfl, hs, hT, hf⟩
  have HN := Lib.hid (new_at cap hc hs hT hf)
  have HT := Lib.hid hT
  clear hs hT hf
  go_wp2
  go_ret2
  obtain ⟨M, hA, hM⟩ := HN.out
  exact ⟨_, M, rfl, hA, hM, (HT.out.alloc _).alloc _⟩

theorem tally_any {w : World} {b : Nat} {M : Mem} {A : Ar} (h : ArAt w b M A) : Calls Try.prog 12 #[.pointer (some ⟨b, 0, none⟩)] w fun e w' => e = .returned (tal A.t) ∧ Frm.Turn [] w w' := by
  have hbl := h.b_lt
  have hc := h.cells.c16
  have hc1 := h.cells.c17
  have hc2 := h.cells.c18
  have hc3 := h.cells.c19
  have hc4 := h.cells.c20
  have hc5 := h.cells.c21
  clear h
  go_enter Try.func12, Try.ntmps12
  go_wp2
  exact bodyPost_ret (v := tal A.t) (by simp [results, Try.results12, go_sem, tal]) rfl ⟨rfl, (Frm.Turn.refl [] w).alloc _⟩
theorem tally_nil (w : World) : Calls Try.prog 12 #[.pointer none] w fun e w' => e = .returned (tal ⟨0, 0, 0, 0, 0, 0⟩) ∧ Frm.Turn [] w w' := by
  go_enter Try.func12, Try.ntmps12
  go_wp2
  exact bodyPost_ret (v := tal ⟨0, 0, 0, 0, 0, 0⟩) (by simp [results, Try.results12, go_sem, tal]) rfl ⟨rfl, (Frm.Turn.refl [] w).alloc _⟩
def Ar.size (A : Ar) (k : Int) : Nat := ((look A.L k).getD []).length
end Arn
end Go.Proofs.Ytgodlddbocmcmaa
