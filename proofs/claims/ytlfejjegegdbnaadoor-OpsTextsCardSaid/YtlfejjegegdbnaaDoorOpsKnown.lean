/- What is known of the world while package ops works (its two tables, what the library reads), and the library's calls in one form each. -/
import Derived.Test.YtlfejjegegdbnaaDoorOpsShelf
import Derived.Test.YtlfejjegegdbnaaDoorOpsTabs
import Derived.Test.YtlfejjegegdbnaaDoorLeastFrame
import Derived.Test.YtlfejjegegdbnaaDoorRows
import Derived.Lib.AppendIntMem
import Derived.Lib.SmallJoins
import Derived.WalkKit
import Derived.ProofKit
import Derived.Lib.Hide
set_option linter.unusedVariables false
set_option linter.unusedSimpArgs false
namespace Go.Proofs.YtlfejjegegdbnaaDoor
namespace Ops
open Go.RowKit Go.Lib

theorem g_pow : Tryd.prog.globalNamed "internal/strconv.uint64pow10" = some 5 := by kernel_rfl

/-- What is known. -/
structure Kn (w : World) : Prop where
  ops : TabCells opT 0 w
  resps : TabCells respT 1 w
  pow : TabIs Tryd.prog w "internal/strconv.uint64pow10" .u64 pow10Tab
  esyn : ∃ tp p, w.cell? ⟨3, 0, none⟩ = some (.iface tp p)
  eran : ∃ tp p, w.cell? ⟨4, 0, none⟩ = some (.iface tp p)
  mlen : ∃ m, w.cell? ⟨2, 0, none⟩ = some (.int .i64 m)

theorem TabCells.below {T : Tab} {g : Nat} {w w' : World} (h : TabCells T g w) (hb : Below w.heap.size w w') : TabCells T g w' := by
  intro c hc
  obtain ⟨h0, h1, h2, h3⟩ := h c hc
  exact ⟨(hb.cell (World.block_lt_of_cell? w _ h0)).trans h0, (hb.cell (World.block_lt_of_cell? w _ h1)).trans h1, (hb.cell (World.block_lt_of_cell? w _ h2)).trans h2, (hb.cell (World.block_lt_of_cell? w _ h3)).trans h3⟩
theorem tabIs_below {P : Program} {n : String} {g : Nat} {k : IntKind} {zs : List Int} {w w' : World} (hg : P.globalNamed n = some g) (h : TabIs P w n k zs) (hb : Below w.heap.size w w') : TabIs P w' n k zs := by
  unfold TabIs World.var? at h ⊢
  rw [hg] at h ⊢
  simp only [Option.bind_some] at h ⊢
  have hlt : g < w.heap.size := by
    rcases Nat.lt_or_ge g w.heap.size with h' | h'
    · exact h'
    · rw [Array.getElem?_eq_none h'] at h; cases h
  rw [hb.block g hlt]
  exact h
theorem Kn.below {w w' : World} (h : Kn w) (hb : Below w.heap.size w w') : Kn w' := by
  obtain ⟨h1, h2, h3, ⟨t4, p4, h4⟩, ⟨t5, p5, h5⟩, ⟨m, h6⟩⟩ := h
  exact ⟨h1.below hb, h2.below hb, tabIs_below g_pow h3 hb, ⟨t4, p4, (hb.cell (World.block_lt_of_cell? w _ h4)).trans h4⟩, ⟨t5, p5, (hb.cell (World.block_lt_of_cell? w _ h5)).trans h5⟩, ⟨m, (hb.cell (World.block_lt_of_cell? w _ h6)).trans h6⟩⟩
theorem Kn.turn {w w' : World} (h : Kn w) (hT : Frm.Turn [] w w') : Kn w' := h.below (hT.below (Nat.le_refl _) (by simp))

def str (l : List UInt8) : Value := .string ⟨l.toArray⟩

theorem itoa_any (n : Int) (w : World) (hk : Kn w) (h0 : 0 ≤ n) (h1 : n ≤ 999999999) :
    Calls Tryd.prog 43 #[.int .i64 n] w fun e w' => e = .returned (.string ⟨(itoa n).toArray⟩) ∧ Frm.Turn [] w w' :=
  (Tryd.strconv_Itoa n (by omega) (by omega) w hk.pow).mono fun e w' ⟨he, k, os, hw⟩ => ⟨he, hw ▸ Frm.Turn.of_below (below_grow _ _ (Nat.le_refl _) _ _)⟩

/-- The pair that Atoi hands back: the number, and something. -/
def AtoiAns (l : List UInt8) (e : Ending) : Prop := ∃ x, e = .returned (.tuple #[.int .i64 (atoiVal l), x])
theorem atoi_any (s : ByteArray) (w : World) (hk : Kn w) (hs : s.size ≤ 1000000000) :
    Calls Tryd.prog 42 #[.string s] w fun e w' => AtoiAns s.data.toList e ∧ Frm.Turn [] w w' := by
  obtain ⟨t4, p4, h4⟩ := hk.esyn
  obtain ⟨t5, p5, h5⟩ := hk.eran
  rcases h : atoiAll s.data.toList with v | _ | _
  · refine (Tryd.strconv_Atoi_ok s (by omega) v h w).mono fun e w' ⟨he, hw⟩ => ⟨⟨.nilIface, ?_⟩, ?_⟩
    · rw [he]; unfold atoiVal; rw [h]
    · rcases hw with rfl | ⟨t, rfl⟩
      · exact Frm.Turn.refl _ _
      · exact Frm.Turn.of_below (Joins.below_bytesWorld _ _ _ _ (Nat.le_refl _))
  · refine (Any.strconv_Atoi_syntax Tryd.laysC172 s (by omega) h _ w h4 (.inr ⟨_, _, rfl⟩)).mono fun e w' ⟨N, he, _, _, hb⟩ => ⟨?_, Frm.Turn.of_below hb⟩
    rw [he]; unfold AtoiAns atoiVal; rw [h]; exact ⟨_, rfl⟩
  · refine (Tryd.strconv_Atoi_range s (by omega) h _ w h5 (.inr ⟨_, _, rfl⟩)).mono fun e w' ⟨N, he, _, _, hb⟩ => ⟨?_, Frm.Turn.of_below hb⟩
    rw [he]; unfold AtoiAns atoiVal; rw [h]; exact ⟨_, rfl⟩

theorem cut_any (s : ByteArray) (w : World) (hk : Kn w) (hs : s.size ≤ 1000000000) :
    Calls Tryd.prog 30 #[.string s, .string ⟨#[32]⟩] w fun e w' => e = .returned (.tuple #[.string ⟨(cut s.data.toList [32]).1.toArray⟩, .string ⟨(cut s.data.toList [32]).2.1.toArray⟩, .bool (cut s.data.toList [32]).2.2]) ∧ Frm.Turn [] w w' := by
  obtain ⟨m, hm⟩ := hk.mlen
  exact (Tryd.strings_Cut s ⟨#[32]⟩ m w (by omega) hm).mono fun e w' ⟨he, n, hw⟩ => ⟨he, hw ▸ (Frm.Turn.refl _ _).drewN n⟩
end Ops
end Go.Proofs.YtlfejjegegdbnaaDoor
