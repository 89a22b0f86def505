/- What 'read' of a form answers: contracts of the call. -/
import Derived.Test.YtlfejjegegdbnaaDoorOpsUnpack
import Derived.LoopTactic
set_option linter.unusedVariables false
set_option linter.unusedSimpArgs false
namespace Go.Proofs.YtlfejjegegdbnaaDoor
namespace Ops
open Go.RowKit Go.Lib

theorem cut_list (l : List UInt8) (w : World) (hk : Kn w) (hs : l.length ≤ 1000000000) :
    Calls Tryd.prog 30 #[.string ⟨l.toArray⟩, .string ⟨#[32]⟩] w fun e w' => e = .returned (.tuple #[.string ⟨(cut l [32]).1.toArray⟩, .string ⟨(cut l [32]).2.1.toArray⟩, .bool (cut l [32]).2.2]) ∧ Frm.Turn [] w w' := by
  have := cut_any ⟨l.toArray⟩ w hk (by show l.toArray.size ≤ _; simpa using hs)
  simpa using this
theorem atoi_list (l : List UInt8) (w : World) (hk : Kn w) (hs : l.length ≤ 1000000000) :
    Calls Tryd.prog 42 #[.string ⟨l.toArray⟩] w fun e w' => AtoiAns l e ∧ Frm.Turn [] w w' := by
  have := atoi_any ⟨l.toArray⟩ w hk (by show l.toArray.size ≤ _; simpa using hs)
  simpa using this
theorem rdS_len (m : Int) (s : List UInt8) : (rdS m s).length ≤ s.length := by
  unfold rdS
  split
  · exact (cut_len s).2
  · exact Nat.le_refl _
theorem blk3 {W : World} {g : Nat} {x0 x1 x2 : Value} {t : TypeId} (h : W.heap[g]? = some (.cells #[x0, x1, x2] t (0, 0))) : (W.cell? ⟨g, 0, none⟩ = some x0 ∧ W.cell? ⟨g, 1, none⟩ = some x1 ∧ W.cell? ⟨g, 2, none⟩ = some x2) ∧ (W.frozen? ⟨g, 0, none⟩ = false ∧ W.frozen? ⟨g, 1, none⟩ = false ∧ W.frozen? ⟨g, 2, none⟩ = false) := by
  refine ⟨⟨?_, ?_, ?_⟩, Frm.frozen_row _ _ _ _ _ h, Frm.frozen_row _ _ _ _ _ h, Frm.frozen_row _ _ _ _ _ h⟩ <;> (rw [Frm.cell_row _ _ _ _ _ _ h]; rfl)

/-- What is left of the text, and what has been read, ahead of a round. -/
def restAt (x0 x1 x2 : Int) (l : List UInt8) : Nat → List UInt8
  | 0 => l
  | 1 => rdS x0 l
  | 2 => rdS x1 (rdS x0 l)
  | _ => rdS x2 (rdS x1 (rdS x0 l))
def gotAt (x0 x1 x2 : Int) (l : List UInt8) : Nat → Array Value
  | 0 => #[.int .i64 0, .int .i64 0, .int .i64 0]
  | 1 => #[.int .i64 (rdV x0 l), .int .i64 0, .int .i64 0]
  | 2 => #[.int .i64 (rdV x0 l), .int .i64 (rdV x1 (rdS x0 l)), .int .i64 0]
  | _ => #[.int .i64 (rdV x0 l), .int .i64 (rdV x1 (rdS x0 l)), .int .i64 (rdV x2 (rdS x1 (rdS x0 l)))]
def ReadAt (x0 x1 x2 : Int) (l : List UInt8) (P : Nat) (W : World) (s i : Value) (wr : World) : Prop :=
  ∃ k : Nat, k ≤ 3 ∧ i = .int .i64 k ∧ s = .string ⟨(restAt x0 x1 x2 l k).toArray⟩ ∧ Frm.Turn [P] W wr ∧ wr.heap[P]? = some (.cells (gotAt x0 x1 x2 l k) 49 (0, 0))

theorem read_some (x : Int) (s : List UInt8) (h : 0 < x) : rdV x s = atoiVal (cut s [32]).1 ∧ rdS x s = (cut s [32]).2.1 := by unfold rdV rdS; rw [if_pos h, if_pos h]; exact ⟨rfl, rfl⟩
theorem read_none (x : Int) (s : List UInt8) (h : ¬ 0 < x) : rdV x s = 0 ∧ rdS x s = s := by unfold rdV rdS; rw [if_neg h, if_neg h]; exact ⟨rfl, rfl⟩

/-- One part read: what the round leaves. -/
theorem round_some {W w2 : World} {P k : Nat} {cur nxt : Array Value} {s : List UInt8} (hT : Frm.Turn [P] W w2) (hP : w2.heap[P]? = some (.cells cur 49 (0, 0))) (hn : cur.setIfInBounds k (.int .i64 (atoiVal (cut s [32]).1)) = nxt) :
    Frm.Turn [P] W (w2.setCell ⟨P, k, none⟩ (.int .i64 (atoiVal (cut s [32]).1))) ∧ (w2.setCell ⟨P, k, none⟩ (.int .i64 (atoiVal (cut s [32]).1))).heap[P]? = some (.cells nxt 49 (0, 0)) := by
  refine ⟨hT.setCell (.inl (by simp)) _, ?_⟩
  rw [Frm.heap_set _ _ _ _ _ _ _ hP, hn]

set_option maxRecDepth 100000 in
set_option maxHeartbeats 4000000 in
theorem fread_any (nm : ByteArray) (x0 x1 x2 : Int) (l : List UInt8) (w : World) (hk : Kn w) (hl : l.length ≤ 1000000000) :
    Calls Tryd.prog 33 #[.agg #[.string nm, .int .i64 x0, .int .i64 x1, .int .i64 x2], .string ⟨l.toArray⟩] w fun e w' => e = .returned (.agg #[.int .i64 (rdV x0 l), .int .i64 (rdV x1 (rdS x0 l)), .int .i64 (rdV x2 (rdS x1 (rdS x0 l)))]) ∧ Frm.Turn [] w w' := by
  have i0 : ∀ w, (Instr.index 49 (.agg #[.int .i64 x0, .int .i64 x1, .int .i64 x2]) (.int .i64 0)).run Tryd.prog w = .ok (.int .i64 x0) w := fun _ => by kernel_rfl
  have i1 : ∀ w, (Instr.index 49 (.agg #[.int .i64 x0, .int .i64 x1, .int .i64 x2]) (.int .i64 1)).run Tryd.prog w = .ok (.int .i64 x1) w := fun _ => by kernel_rfl
  have i2 : ∀ w, (Instr.index 49 (.agg #[.int .i64 x0, .int .i64 x1, .int .i64 x2]) (.int .i64 2)).run Tryd.prog w = .ok (.int .i64 x2) w := fun _ => by kernel_rfl
  have hT0 : Frm.Turn [] w (((w.alloc (.cells #[.string nm, .int .i64 x0, .int .i64 x1, .int .i64 x2] 51)).alloc (.cells #[.int .i64 0, .int .i64 0, .int .i64 0] 49)).alloc (.cells #[.int .i64 0, .int .i64 0, .int .i64 0] 49)) := (((Frm.Turn.refl [] w).alloc _).alloc _).alloc _
  have HB1 : Hid ((((w.alloc (.cells #[.string nm, .int .i64 x0, .int .i64 x1, .int .i64 x2] 51)).alloc (.cells #[.int .i64 0, .int .i64 0, .int .i64 0] 49)).alloc (.cells #[.int .i64 0, .int .i64 0, .int .i64 0] 49)).heap[w.heap.size + 1]? = some (.cells #[.int .i64 0, .int .i64 0, .int .i64 0] 49 (0, 0))) := Lib.hid (by rw [Below.heap_alloc _ _ _ (by simp)]; exact heap_last w _ _)
  have HB2 : Hid ((((w.alloc (.cells #[.string nm, .int .i64 x0, .int .i64 x1, .int .i64 x2] 51)).alloc (.cells #[.int .i64 0, .int .i64 0, .int .i64 0] 49)).alloc (.cells #[.int .i64 0, .int .i64 0, .int .i64 0] 49)).heap[w.heap.size + 1 + 1]? = some (.cells #[.int .i64 0, .int .i64 0, .int .i64 0] 49 (0, 0))) := Lib.hid (by have := heap_last (w.alloc (.cells #[.string nm, .int .i64 x0, .int .i64 x1, .int .i64 x2] 51)) (.cells #[.int .i64 0, .int .i64 0, .int .i64 0] 49) (.cells #[.int .i64 0, .int .i64 0, .int .i64 0] 49); simpa using this)
  have HT0 := Lib.hid hT0
  have HK := Lib.hid hk
  have r1 := rdS_len x0 l
  have r2 := rdS_len x1 (rdS x0 l)
  have HC := Lib.hid (fun (s : List UInt8) (hs : s.length ≤ 1000000000) W hkW => cut_list s W hkW hs)
  have HA := Lib.hid (fun (s : List UInt8) (hs : s.length ≤ 1000000000) W hkW => atoi_list (cut s [32]).1 W hkW (Nat.le_trans (cut_len s).1 hs))
  have L0 := Lib.hid hl
  have L1 : Hid ((rdS x0 l).length ≤ 1000000000) := Lib.hid (by omega)
  have L2 : Hid ((rdS x1 (rdS x0 l)).length ≤ 1000000000) := Lib.hid (by omega)
  clear hk hl r1 r2 hT0
  go_enter Tryd.func33, Tryd.ntmps33
  go_wp2
  generalize ((w.alloc (.cells #[.string nm, .int .i64 x0, .int .i64 x1, .int .i64 x2] 51)).alloc (.cells #[.int .i64 0, .int .i64 0, .int .i64 0] 49)).alloc (.cells #[.int .i64 0, .int .i64 0, .int .i64 0] 49) = W at HB1 HB2 HT0 ⊢
  go_loopw [1, 11] (fun s i wr => ReadAt x0 x1 x2 l (w.heap.size + 1 + 1) W s i wr) (fun _ i _ => (4 - RowKit.intOf i).toNat)
  case atStart => exact ⟨0, by omega, rfl, rfl, Frm.Turn.refl _ _, HB2.out⟩
  case round =>
    obtain ⟨k, hk3, rfl, rfl, hT, hP⟩ := hrel
    have HTr := Lib.hid hT
    have HP := Lib.hid hP
    have HNk : Hid (∀ w', Frm.Turn [w.heap.size + 1 + 1] W w' → Kn w') := Lib.hid (fun w' h' => HK.out.turn (HT0.out.trans h' (fun k hk => .inr (by simp at hk; omega))))
    clear hT hP
    obtain rfl | rfl | rfl | rfl : k = 0 ∨ k = 1 ∨ k = 2 ∨ k = 3 := by omega
    · have HC1 := Lib.hid (HC.out l L0.out wr (HNk.out _ HTr.out))
      simp only [restAt]
      by_cases h : 0 < x0
      · have HS := Lib.hid (read_some x0 l h)
        go_wp2_with (first
          | (go_at_call 30; (with_reducible refine (HC1.out).mono ?_); rintro e w1 ⟨rfl, hT1⟩; have HT1 := Lib.hid (HTr.out.trans hT1 (by simp)); have HP1 := Lib.hid (hT1.keep HP.out (by simp)); have HA1 := Lib.hid (HA.out l L0.out w1 (HNk.out _ HT1.out)); clear hT1)
          | (go_at_call 42; (with_reducible refine (HA1.out).mono ?_); rintro e w2 ⟨⟨x, rfl⟩, hT2⟩; have HT2 := Lib.hid (HT1.out.trans hT2 (by simp)); have HP2 := Lib.hid (hT2.keep HP1.out (by simp)); obtain ⟨⟨e0, e1, e2⟩, f0, f1, f2⟩ := blk3 HP2.out; have HR := Lib.hid (round_some (k := 0) (s := l) HT2.out HP2.out rfl); clear hT2))
        go_roundw
        case rel => exact ⟨1, by omega, rfl, by simp only [restAt]; rw [HS.out.2], HR.out.1, by rw [HR.out.2]; simp only [gotAt]; rw [HS.out.1]; rfl⟩
        case measure => simp [RowKit.intOf]
      · have HS := Lib.hid (read_none x0 l h)
        go_wp2
        go_roundw
        case rel => exact ⟨1, by omega, rfl, by simp only [restAt]; rw [HS.out.2], HTr.out, by rw [HP.out]; simp only [gotAt]; rw [HS.out.1]⟩
        case measure => simp [RowKit.intOf]
    · have HC1 := Lib.hid (HC.out (rdS x0 l) L1.out wr (HNk.out _ HTr.out))
      simp only [restAt]
      by_cases h : 0 < x1
      · have HS := Lib.hid (read_some x1 (rdS x0 l) h)
        go_wp2_with (first
          | (go_at_call 30; (with_reducible refine (HC1.out).mono ?_); rintro e w1 ⟨rfl, hT1⟩; have HT1 := Lib.hid (HTr.out.trans hT1 (by simp)); have HP1 := Lib.hid (hT1.keep HP.out (by simp)); have HA1 := Lib.hid (HA.out (rdS x0 l) L1.out w1 (HNk.out _ HT1.out)); clear hT1)
          | (go_at_call 42; (with_reducible refine (HA1.out).mono ?_); rintro e w2 ⟨⟨x, rfl⟩, hT2⟩; have HT2 := Lib.hid (HT1.out.trans hT2 (by simp)); have HP2 := Lib.hid (hT2.keep HP1.out (by simp)); obtain ⟨⟨e0, e1, e2⟩, f0, f1, f2⟩ := blk3 HP2.out; have HR := Lib.hid (round_some (k := 1) (s := (rdS x0 l)) HT2.out HP2.out rfl); clear hT2))
        go_roundw
        case rel => exact ⟨2, by omega, rfl, by simp only [restAt]; rw [HS.out.2], HR.out.1, by rw [HR.out.2]; simp only [gotAt]; rw [HS.out.1]; rfl⟩
        case measure => simp [RowKit.intOf]
      · have HS := Lib.hid (read_none x1 (rdS x0 l) h)
        go_wp2
        go_roundw
        case rel => exact ⟨2, by omega, rfl, by simp only [restAt]; rw [HS.out.2], HTr.out, by rw [HP.out]; simp only [gotAt]; rw [HS.out.1]⟩
        case measure => simp [RowKit.intOf]
    · have HC1 := Lib.hid (HC.out (rdS x1 (rdS x0 l)) L2.out wr (HNk.out _ HTr.out))
      simp only [restAt]
      by_cases h : 0 < x2
      · have HS := Lib.hid (read_some x2 (rdS x1 (rdS x0 l)) h)
        go_wp2_with (first
          | (go_at_call 30; (with_reducible refine (HC1.out).mono ?_); rintro e w1 ⟨rfl, hT1⟩; have HT1 := Lib.hid (HTr.out.trans hT1 (by simp)); have HP1 := Lib.hid (hT1.keep HP.out (by simp)); have HA1 := Lib.hid (HA.out (rdS x1 (rdS x0 l)) L2.out w1 (HNk.out _ HT1.out)); clear hT1)
          | (go_at_call 42; (with_reducible refine (HA1.out).mono ?_); rintro e w2 ⟨⟨x, rfl⟩, hT2⟩; have HT2 := Lib.hid (HT1.out.trans hT2 (by simp)); have HP2 := Lib.hid (hT2.keep HP1.out (by simp)); obtain ⟨⟨e0, e1, e2⟩, f0, f1, f2⟩ := blk3 HP2.out; have HR := Lib.hid (round_some (k := 2) (s := (rdS x1 (rdS x0 l))) HT2.out HP2.out rfl); clear hT2))
        go_roundw
        case rel => exact ⟨3, by omega, rfl, by simp only [restAt]; rw [HS.out.2], HR.out.1, by rw [HR.out.2]; simp only [gotAt]; rw [HS.out.1]; rfl⟩
        case measure => simp [RowKit.intOf]
      · have HS := Lib.hid (read_none x2 (rdS x1 (rdS x0 l)) h)
        go_wp2
        go_roundw
        case rel => exact ⟨3, by omega, rfl, by simp only [restAt]; rw [HS.out.2], HTr.out, by rw [HP.out]; simp only [gotAt]; rw [HS.out.1]⟩
        case measure => simp [RowKit.intOf]
    · obtain ⟨⟨e0, e1, e2⟩, _⟩ := blk3 HP.out
      obtain ⟨⟨g0, g1, g2⟩, f0, f1, f2⟩ := blk3 (HTr.out.keep HB1.out (by simp))
      have HF := Lib.hid ((HT0.out.trans HTr.out (fun k hk => .inr (by simp at hk; omega))))
      go_wp2
      exact bodyPost_ret (v := .agg #[.int .i64 (rdV x0 l), .int .i64 (rdV x1 (rdS x0 l)), .int .i64 (rdV x2 (rdS x1 (rdS x0 l)))]) (by simp [results, Tryd.results33, go_sem, g0, g1, g2]) rfl ⟨rfl, ((HF.out.setCell (.inr (Nat.le_succ _)) _).setCell (.inr (Nat.le_succ _)) _).setCell (.inr (Nat.le_succ _)) _⟩
end Ops
end Go.Proofs.YtlfejjegegdbnaaDoor
